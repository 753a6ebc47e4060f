/- Several texts in one: Sr, Ss. -/
import Derived.Test.YtcafoppnnlfmmaaGreatDoorRo
/- SlowestRow: the model's side. -/
namespace Go.Proofs.YtcafoppnnlfmmaaGreatDoor
open Go.ChangeShapes Go.WideShapes Go.ChangeAt Go.RowKit Go.Shelf Go.Joins Go.Deep
set_option linter.unusedVariables false
set_option linter.unusedSimpArgs false

/-- the slowest row and its tick, after the ticks of one row more -/
def slT (row : Int) : List Int → Int → Int → Int × Int
  | [], a, b => (a, b)
  | t :: l, a, b => if b < t then slT row l row t else slT row l a b
def slR (T : Nat → List Int) : Nat → Int × Int
  | 0 => (0, -1)
  | j + 1 => slT (j : Int) (T j) (slR T j).1 (slR T j).2
def mxQ : List Int → Int → Int
  | [], b => b
  | t :: l, b => mxQ l (if b < t then t else b)
theorem mxQ_ge : ∀ (l : List Int) (b : Int), b ≤ mxQ l b
  | [], b => Int.le_refl _
  | t :: l, b => by
    unfold mxQ
    split
    · exact Int.le_trans (by omega) (mxQ_ge l t)
    · exact mxQ_ge l b
/-- only the greatest tick of a row matters -/
theorem slT_max (row : Int) : ∀ (l : List Int) (a b : Int), slT row l a b = if b < mxQ l b then (row, mxQ l b) else (a, b)
  | [], a, b => by simp [slT, mxQ]
  | t :: l, a, b => by
    unfold slT mxQ
    split
    · rename_i h
      rw [slT_max row l row t]
      have := mxQ_ge l t
      by_cases h2 : t < mxQ l t
      · rw [if_pos h2, if_pos (by omega)]
      · have e : mxQ l t = t := by omega
        rw [if_neg h2, if_pos (by omega), e]
    · exact slT_max row l a b
theorem slR_range {T : Nat → List Int} {N : Nat} (hT : ∀ j, j < N → ∀ x ∈ T j, x = -1 ∨ (0 ≤ x ∧ x ≤ 2800)) (hN : N ≤ 64) : ∀ j, j ≤ N → 0 ≤ (slR T j).1 ∧ (slR T j).1 ≤ 64 ∧ ((slR T j).2 = -1 ∨ (0 ≤ (slR T j).2 ∧ (slR T j).2 ≤ 2800))
  | 0, _ => ⟨Int.le_refl _, (show (0 : Int) ≤ 64 by decide), Or.inl rfl⟩
  | j + 1, hj => by
    have h0 := slR_range hT hN j (by omega)
    have key : ∀ (l : List Int) (a b : Int), (∀ x ∈ l, x = -1 ∨ (0 ≤ x ∧ x ≤ 2800)) → (0 ≤ a ∧ a ≤ 64 ∧ (b = -1 ∨ (0 ≤ b ∧ b ≤ 2800))) → 0 ≤ (slT (j : Int) l a b).1 ∧ (slT (j : Int) l a b).1 ≤ 64 ∧ ((slT (j : Int) l a b).2 = -1 ∨ (0 ≤ (slT (j : Int) l a b).2 ∧ (slT (j : Int) l a b).2 ≤ 2800)) := by
      intro l
      induction l with
      | nil => intro a b _ h; exact h
      | cons t l ih =>
        intro a b hl h
        unfold slT
        split
        · exact ih _ _ (fun x hx => hl x (List.mem_cons_of_mem _ hx)) ⟨by omega, by omega, hl t (List.mem_cons_self ..)⟩
        · exact ih _ _ (fun x hx => hl x (List.mem_cons_of_mem _ hx)) h
    exact key _ _ _ (hT j (by omega)) h0
def srQ (M : Bool) (s : Int × Int) : Int × Int × Int := if M = true then (if s.2 < 0 then (0, 0, 6) else (s.1, s.2, 0)) else (0, 0, 1)
theorem tri_SR {a b c d e f : Int} (h : (a, b, c) = (d, e, f)) : a = d ∧ b = e ∧ c = f := by injection h with h1 h; injection h with h2 h3; exact ⟨h1, h2, h3⟩
set_option maxRecDepth 100000 in
set_option maxHeartbeats 16000000 in
theorem specSlowestRow_any (b k q m n r : Nat) (wd hi : Int) (l : List Pc) (p : List Po) (c : List Cl) (w : World) (hp : PcsAt w b 0 l) (hg : PosAt w k 0 p) (hj : ClsAt w q 0 c) (zb : b < w.heap.size) (zk : k < w.heap.size) (zq : q < w.heap.size)
    (hm : l.length = m) (hn : p.length = n) (hr : c.length = r) (h8 : All8 l) (hw : PosWf p) (bw : i8 wd) (bh : i8 hi) (m0 : m ≤ 1048576) (m1 : n ≤ 1048576) (m2 : r ≤ 1048576) (M : Bool) (hM : M = machOk wd hi l p c) (F : Nat → List Fl) (hF : M = true → AnsAt wd hi l p c n F) (N : Nat) (hN : 2 ^ n = N) (E1 E2 C : Int) (hQ : srQ M (slR (fun j => ticksL l (F j) c) N) = (E1, E2, C)) :
    Calls Tryz.prog 18 #[.agg #[.int .i8 wd, .int .i8 hi, .slice (some ⟨b, 0, none⟩) m m, .slice (some ⟨k, 0, none⟩) n n, .slice (some ⟨q, 0, none⟩) r r]] w (fun e w' => e = .returned (.tuple #[.int .i64 E1, .int .i64 E2, .int .i64 C]) ∧ Below w.heap.size w w') := by
  obtain ⟨W, hW⟩ : ∃ W, w.alloc (.cells #[.int .i8 wd, .int .i8 hi, .slice (some ⟨b, 0, none⟩) m m, .slice (some ⟨k, 0, none⟩) n n, .slice (some ⟨q, 0, none⟩) r r] 40) = W := ⟨_, rfl⟩
  have kW : Below w.heap.size w W := by rw [← hW]; exact kAlloc (Below.refl _ _) _
  have bm : McAt W w.heap.size wd hi (.slice (some ⟨b, 0, none⟩) m m) (.slice (some ⟨k, 0, none⟩) n n) (.slice (some ⟨q, 0, none⟩) r r) := by rw [← hW]; exact McAt.box _ _ _ _ _ _ _
  have lD := bm.lt
  have HM0 := Lib.hid (fun W2 (h2 : Below W.heap.size W W2) => bm.below h2 lD)
  have HV := Lib.hid (l03Ok_any w.heap.size b k q m n r wd hi l p c W hm hn hr bm (hp.below kW zb) (hg.below kW zk) (hj.below kW zq) (Nat.lt_of_lt_of_le zb kW.size) (Nat.lt_of_lt_of_le zk kW.size) (Nat.lt_of_lt_of_le zq kW.size) h8 hw bw bh m0 m1 m2 M hM)
  have HP := Lib.hid (fun W (h : Below w.heap.size w W) => hp.below h zb)
  have HG := Lib.hid (fun W (h : Below w.heap.size w W) => hg.below h zk)
  have HC := Lib.hid (fun W (h : Below w.heap.size w W) => hj.below h zq)
  have HFF := Lib.hid hF
  have HNN := Lib.hid hN
  have HM := Lib.hid hM
  have Hn := Lib.hid hn
  have Hm := Lib.hid hm
  have Hr := Lib.hid hr
  have HQ := Lib.hid hQ
  have HW := Lib.hid hW
  obtain ⟨x0, x1, x2, x3, x4⟩ := bm
  clear hp hg hj h8 hw hM hn hm hr hF hN hW hQ
  cases M with
  | false =>
    obtain ⟨rfl, rfl, rfl⟩ := tri_SR (show ((0 : Int), (0 : Int), (1 : Int)) = (E1, E2, C) from HQ.out)
    clear HQ HP HG HC HFF HM HNN
    go_enter Tryz.func18, Tryz.ntmps18
    go_upto_region 1 with fail
    try rw [HW.out]
    go_wp2_with fail
    refine HV.out.mono ?_
    rintro e w1 ⟨rfl, hb1⟩
    have T1 := kTrans kW hb1
    clear HV hb1 x0 x1 x2 x3 x4
    go_wp2
    exact bodyPost_ret (v := .tuple #[.int .i64 0, .int .i64 0, .int .i64 1]) (by simp [results, Tryz.results18, go_sem]) rfl ⟨rfl, by repeat (first | with_reducible exact Below.refl _ _ | (with_reducible refine kSet ?_ ?hB _; case hB => (simp; try omega)) | with_reducible refine kAlloc ?_ _ | with_reducible refine Below.drew ?_ | with_reducible refine kDrewN ?_ _ | with_reducible refine kTrans ?_ (by assumption))⟩
  | true =>
    have hmp := machOk_parts HM.out.symm
    rw [Hm.out, Hn.out, Hr.out] at hmp
    have h6 := hmp.2.1.2.1.2
    have hr8 := hmp.2.1.2.2.2
    have hr1 := hmp.2.1.2.2.1
    have Hf := Lib.hid (HFF.out rfl)
    obtain ⟨hN64, hN1, hpn⟩ := pow_N h6 HNN.out
    clear hmp HFF
    obtain ⟨i0, hi0, hz0, hzz1, hzz2⟩ := info_parts info_i64n
    have Hi := Lib.hid hi0
    have Hz0 := Lib.hid hz0
    have Hz1 := Lib.hid hzz1
    have Hz2 := Lib.hid hzz2
    have HRG := Lib.hid (slR_range (T := fun j => ticksL l (F j) c) (N := N) (fun j _ => (Hf.out j).ticks_wf) hN64)
    obtain ⟨T, hT⟩ : ∃ T : Nat → List Int, T = fun j => ticksL l (F j) c := ⟨_, rfl⟩
    have HTE := Lib.hid (fun j : Nat => (show ticksL l (F j) c = T j by rw [hT]))
    have HTL := Lib.hid (fun j : Nat => (show (T j).length = r by rw [hT]; simp only [ticksL_length]; exact Hr.out))
    have HQ2 := Lib.hid (show (if (slR T N).2 < 0 then ((0 : Int), (0 : Int), (6 : Int)) else ((slR T N).1, (slR T N).2, 0)) = (E1, E2, C) by rw [hT]; exact HQ.out)
    rw [← hT] at HRG
    clear hi0 hz0 hzz1 hzz2 hT HQ
    go_enter Tryz.func18, Tryz.ntmps18
    go_upto_region 1 with fail
    try rw [HW.out]
    go_wp2_with fail
    refine HV.out.mono ?_
    rintro e w1 ⟨rfl, hb1⟩
    have T1 := kTrans kW hb1
    clear HV HW x0 x1 x2 x3 x4
    obtain ⟨x0, x1, x2, x3, x4⟩ := HM0.out w1 hb1
    have l1 := Nat.lt_of_lt_of_le lD hb1.size
    have HR := Lib.hid (fun W2 (h2 : Below w1.heap.size w1 W2) => by have h := l03Rows_any w.heap.size n wd hi _ _ _ _ W2 (HM0.out W2 (kTrans hb1 h2)) h6; rw [hpn] at h; exact h)
    clear hpn
    go_wp2_with (refine wpList_make_full _ rfl _ _ 59 rfl w1.heap.size 2 i0 _ 1 Tryz.underlying59 Hi.out Hz0.out Hz1.out _ _ _ _ n rfl rfl rfl rfl ?c1 ?c2 ?c3 ?_)
    case c1 => rw [Hz2.out]; omega
    case c2 => unfold maxLen; omega
    case c3 => exact Nat.le_refl _
    intro w2 hown hgr
    obtain ⟨hz, hzl, _⟩ := zeros_made hown
    have hB2 : Below w1.heap.size w1 w2 := (Below.refl _ _).grown hgr (Nat.le_refl _) (by intro k hk; cases hk)
    have HZ := Lib.hid hz
    have HB := Lib.hid hB2
    clear hown hgr hz x0 x1 x2 x3 x4 hB2
    go_wp2
    go_loopw [6, 7, 8, 9, 10] (fun s6 s7 s8 _ _ wr => ∃ j : Nat, j ≤ N ∧ s6 = .int .i64 (slR T j).1 ∧ s7 = .int .i64 (slR T j).2 ∧ s8 = .int .i64 j ∧ Hid (Below w2.heap.size w2 wr)) (fun _ _ s8 _ _ _ => N - (intOf s8).toNat)
    case atStart => exact ⟨0, by omega, rfl, rfl, rfl, Lib.hid (Below.refl _ _)⟩
    case round =>
      obtain ⟨j, hj, rfl, rfl, rfl, hbr⟩ := hrel
      have kWr := Lib.hid (kTrans HB.out hbr.out)
      have hsr := HRG.out j hj
      obtain ⟨sa, sb, hs⟩ : ∃ sa sb, slR T j = (sa, sb) := ⟨_, _, rfl⟩
      rw [hs] at hsr
      simp only at hsr
      have HS := Lib.hid hs
      by_cases hlt : j < N
      · rw [hs]
        clear hs
        go_wp2_with fail
        refine (HR.out wr kWr.out).mono ?_
        rintro e w' ⟨rfl, rfl⟩
        have T3 := kTrans T1 kWr.out
        have HTK := Lib.hid (by have h := l03Ticks_any w.heap.size b k q w1.heap.size m n r wd hi j l p c (zeros n) wr (HM0.out _ (kTrans hb1 kWr.out)) (HP.out _ T3) (HG.out _ T3) (HC.out _ T3) (HZ.out.below hbr.out hzl) (Nat.lt_of_lt_of_le zb T3.size) (Nat.lt_of_lt_of_le zk T3.size) (Nat.lt_of_lt_of_le zq T3.size) (Nat.lt_of_lt_of_le hzl hbr.out.size) Hm.out Hn.out Hr.out (zeros_length n) h6 hr8 (by omega) (zeros_late n) (F j) (Hf.out j) (T j) (HTE.out j); exact h)
        go_wp2_with fail
        refine HTK.out.mono ?_
        rintro e w5 ⟨v, rfl, hv, hb5⟩
        obtain ⟨va, vc, rfl⟩ := hv.form
        have hv2 := hv.sl
        have HL := Lib.hid (HTL.out j)
        have hrg : ∀ x ∈ T j, x = -1 ∨ (0 ≤ x ∧ x ≤ 2800) := by rw [← HTE.out j]; exact (Hf.out j).ticks_wf
        obtain ⟨s1, hs1⟩ : ∃ s1, slR T (j + 1) = s1 := ⟨_, rfl⟩
        have HF1 : Hid (slT (j : Int) ((T j).drop 0) sa sb = s1) := Lib.hid (by rw [← hs1, List.drop_zero]; show _ = slT (j : Int) (T j) (slR T j).1 (slR T j).2; rw [HS.out])
        have HS1 := Lib.hid hs1
        obtain ⟨L, hL⟩ : ∃ L, T j = L := ⟨_, rfl⟩
        rw [hL] at hv2 HL hrg HF1 ⊢
        obtain ⟨g, o, rfl, hI, hgl, hcl, -⟩ := slIn_some hv2 (by rw [HL.out]; omega)
        rw [HL.out] at hcl ⊢
        have HI := Lib.hid hI
        have HRGL := Lib.hid hrg
        have T5 := Lib.hid (kTrans hbr.out hb5)
        clear HTK hv hv2 hb5 hL hI hs1 hrg kWr T3 hbr
        have hsb := hsr.2.2
        go_wp2
        go_loopw [6, 7, 10] (fun s6 s7 s10 wr => ∃ (i : Nat) (a b2 : Int), i ≤ r ∧ s6 = .int .i64 a ∧ s7 = .int .i64 b2 ∧ s10 = .int .i64 i ∧ (b2 = -1 ∨ (0 ≤ b2 ∧ b2 ≤ 2800)) ∧ Hid (slT (j : Int) (L.drop i) a b2 = s1) ∧ w5 = wr) (fun _ _ s10 _ => r - (intOf s10).toNat)
        case atStart => exact ⟨0, _, _, by omega, rfl, rfl, rfl, hsb, HF1, rfl⟩
        case round =>
          clear HF1 hsb hsr
          obtain ⟨i, a, b2, hir, rfl, rfl, rfl, hb2, hF1, rfl⟩ := hrel
          by_cases hil : i < r
          · have hiL : i < L.length := by rw [HL.out]; exact hil
            have cx := HI.out i hiL
            have hx := HRGL.out L[i] (List.getElem_mem hiL)
            have hf2 := hF1.out
            rw [List.drop_eq_getElem_cons hiL] at hf2
            generalize L[i] = x at cx hx hf2
            unfold slT at hf2
            clear hF1
            by_cases hgt : b2 < x
            · have hgt' : decide (b2 < x) = true := by simpa using hgt
              rw [if_pos hgt] at hf2
              have HF2 := Lib.hid hf2
              clear hf2 hgt
              go_wp2
              exact ⟨⟨i + 1, _, _, by omega, rfl, rfl, by go_num, hx, HF2, trivial⟩, by simp [intOf]; omega⟩
            · have hgt' : decide (b2 < x) = false := by simpa using hgt
              rw [if_neg hgt] at hf2
              have HF2 := Lib.hid hf2
              clear hf2 hgt
              go_wp2
              exact ⟨⟨i + 1, _, _, by omega, rfl, rfl, by go_num, hb2, HF2, trivial⟩, by simp [intOf]; omega⟩
          · obtain rfl : i = r := by omega
            have hf2 := hF1.out
            rw [List.drop_of_length_le (by rw [HL.out]; exact Nat.le_refl _)] at hf2
            have HE : Hid (slR T (j + 1) = (a, b2)) := Lib.hid (by rw [HS1.out, ← hf2]; rfl)
            clear hf2 hF1
            go_wp2
            exact ⟨⟨j + 1, by omega, by rw [HE.out], by rw [HE.out], by go_num, T5⟩, by simp [intOf]; omega⟩
      · obtain rfl : j = N := by omega
        have hq := HQ2.out
        rw [hs] at hq
        rw [hs]
        simp only at hq
        have HQ3 := Lib.hid hq
        have T3 := kTrans T1 kWr.out
        clear hs hq HQ2
        go_wp2_with fail
        refine (HR.out wr kWr.out).mono ?_
        rintro e w' ⟨rfl, rfl⟩
        by_cases h0 : sb < 0
        · have h0' : decide (sb < 0) = true := by simpa using h0
          obtain ⟨rfl, rfl, rfl⟩ := tri_SR (show ((0 : Int), (0 : Int), (6 : Int)) = (E1, E2, C) by rw [← HQ3.out, if_pos h0])
          clear HQ3 h0
          go_wp2
          exact bodyPost_ret (v := .tuple #[.int .i64 0, .int .i64 0, .int .i64 6]) (by simp [results, Tryz.results18, go_sem]) rfl ⟨rfl, T3⟩
        · have h0' : decide (sb < 0) = false := by simpa using h0
          obtain ⟨rfl, rfl, rfl⟩ := tri_SR (show (sa, sb, (0 : Int)) = (E1, E2, C) by rw [← HQ3.out, if_neg h0])
          clear HQ3 h0
          go_wp2
          exact bodyPost_ret (v := .tuple #[.int .i64 sa, .int .i64 sb, .int .i64 0]) (by simp [results, Tryz.results18, go_sem]) rfl ⟨rfl, T3⟩
end Go.Proofs.YtcafoppnnlfmmaaGreatDoor

/- SlowestRow: the program's side. -/
namespace Go.Proofs.YtcafoppnnlfmmaaGreatDoor
open Go.ChangeShapes Go.WideShapes Go.ChangeAt Go.RowKit Go.Shelf Go.Joins Go.Deep
set_option linter.unusedVariables false
set_option linter.unusedSimpArgs false

def maxL : List Int → Int → Int
  | [], s => s
  | x :: l, s => maxL l (max s x)
theorem maxL_mxQ : ∀ (l : List Int) (s : Int), maxL l s = mxQ l s
  | [], _ => rfl
  | x :: l, s => by
    unfold maxL mxQ
    rw [maxL_mxQ l]
    congr 1
    rw [Int.max_def]
    split <;> split <;> omega
theorem mxQ_mono : ∀ (l : List Int) (a b : Int), a ≤ b → mxQ l b = max b (mxQ l a) 
  | [], a, b, h => by simp only [mxQ]; rw [Int.max_def]; split <;> omega
  | x :: l, a, b, h => by
    have h1 := mxQ_ge l (if a < x then x else a)
    by_cases hb : b < x
    · have ha : a < x := by omega
      simp only [mxQ, if_pos hb, if_pos ha] at h1 ⊢
      rw [Int.max_def]; split <;> omega
    · by_cases ha : a < x
      · simp only [mxQ, if_neg hb, if_pos ha]
        exact mxQ_mono l x b (by omega)
      · simp only [mxQ, if_neg hb, if_neg ha]
        exact mxQ_mono l a b h
/-- the greatest of a list that is not empty decides -/
theorem slT_maxL (row : Int) (x : Int) (l : List Int) (a b M : Int) (hM : maxL l x = M) : slT row (x :: l) a b = if b < M then (row, M) else (a, b) := by
  rw [slT_max]
  rw [maxL_mxQ] at hM
  have h1 := mxQ_ge l x
  by_cases hb : b < x
  · have e : mxQ (x :: l) b = M := by rw [← hM]; simp only [mxQ, if_pos hb]
    rw [e]
  · have e : mxQ (x :: l) b = max b M := by
      simp only [mxQ, if_neg hb]
      rw [mxQ_mono l x b (by omega), hM]
    rw [e]
    by_cases h2 : b < M
    · have e2 : max b M = M := by rw [Int.max_def]; split <;> omega
      rw [e2]
    · have e2 : max b M = b := by rw [Int.max_def]; split <;> omega
      rw [e2, if_neg (by omega), if_neg h2]
set_option maxRecDepth 100000 in
set_option maxHeartbeats 4000000 in
theorem maxI_any (g o N c : Nat) (x0 : Int) (R : List Int) (w : World) (hL : R.length + 1 = N) (hN : N ≤ 80) (hc : InsAt w g o (x0 :: R)) (hg : g < w.heap.size) (hle : N ≤ c) (M : Int) (hM : maxL R x0 = M) :
    Calls Tryz.prog 53 #[.slice (some ⟨g, o, none⟩) N c] w fun e w' => e = .returned (.int .i64 M) ∧ w = w' := by
  obtain ⟨L, hLe⟩ : ∃ L, x0 :: R = L := ⟨_, rfl⟩
  rw [hLe] at hc
  have HL : Hid (L.length = N) := Lib.hid (by rw [← hLe, List.length_cons]; exact hL)
  have h1 : 1 ≤ N := by omega
  have h0 : 0 < L.length := by rw [HL.out]; omega
  have c0 := hc 0 h0
  have e0 : L[0] = x0 := by subst hLe; rfl
  rw [e0] at c0
  simp only [Nat.add_zero] at c0
  have HM : Hid (maxL (L.drop 1) x0 = M) := Lib.hid (by rw [← hLe]; exact hM)
  clear hL hM h0 e0 hLe
  go_enter Tryz.func53, Tryz.ntmps53
  go_wp2
  go_loopw [3, 4] (fun m i wr => ∃ (j : Nat) (S : Int), 1 ≤ j ∧ j ≤ N ∧ i = .int .i64 j ∧ m = .int .i64 S ∧ Hid (maxL (L.drop j) S = M) ∧ w = wr) (fun _ i _ => N - (intOf i).toNat)
  case atStart => exact ⟨1, _, by omega, by omega, rfl, rfl, HM, rfl⟩
  case round =>
    clear HM c0
    obtain ⟨j, S, hj1, hj, rfl, rfl, hf, rfl⟩ := hrel
    by_cases hlt : j < N
    · have hlk : j < L.length := by rw [HL.out]; exact hlt
      have cj := hc j hlk
      have hf2 := hf.out
      rw [List.drop_eq_getElem_cons hlk] at hf2
      generalize L[j] = x at cj hf2
      have HF : Hid (maxL (L.drop (j + 1)) (max S x) = M) := Lib.hid hf2
      clear hf2 hf
      go_wp2
      exact ⟨⟨j + 1, max S x, by omega, by omega, by go_num, by simp [Int.max_def]; try omega, HF, trivial⟩, by simp [intOf]; omega⟩
    · obtain rfl : j = N := by omega
      obtain rfl : S = M := by rw [← hf.out, List.drop_of_length_le (by rw [HL.out]; exact Nat.le_refl _)]; rfl
      clear hf
      go_wp2
      go_ret
      exact ⟨rfl, rfl⟩
def onlyN (Q : Exit → Act → World → Prop) (e : Exit) (a : Act) (w : World) : Prop := e = .normal ∧ Q .normal a w
theorem regionW_of_H {id : Nat} {P : Program} {ops : Array Oper} {Q : Exit → Act → World → Prop} {a : Act} {w : World} (S : World → Prop) (hm : P.follows .mixedOrders = true)
    (hS : S w.drew) (h : S w.drew → wpAnyH P .any ops (onlyN Q) S ops.size (Array.replicate ops.size false) a w.drew) : (Code.region id ops true).wp P Q a w :=
  wp_mono (wp_region_any hm (wpAny_of_held _ _ _ _ (h hS))) (fun e a w hq => by obtain ⟨rfl, hq⟩ := hq; exact hq)
/-- the two boxes, and what lies as it lay -/
structure SrI (w5 : World) (g7 g8 : Nat) (x y : Int) (W : World) : Prop where
  os : W.os = w5.os
  tape : W.tape = w5.tape
  output : W.output = w5.output
  size : w5.heap.size ≤ W.heap.size
  block : ∀ k, k < w5.heap.size → k ≠ g7 → k ≠ g8 → W.heap[k]? = w5.heap[k]?
  b7 : Boxed W g7 2 (.int .i64 x)
  b8 : Boxed W g8 2 (.int .i64 y)
theorem SrI.own {w5 : World} {g7 g8 : Nat} (f : List R64 → Int × Int) (h7 : g7 < w5.heap.size) (h8 : g8 < w5.heap.size) : OwnFrom w5.heap.size (fun (pre : List R64) W => SrI w5 g7 g8 (f pre).1 (f pre).2 W) := by
  intro s X Y row hs hg hr
  have ne : ∀ k, k < w5.heap.size → some k ≠ row := by
    intro k hk e
    have := (hr _ e.symm).1
    omega
  refine ⟨hg.os.trans hs.os, hg.tape.trans hs.tape, hg.output.trans hs.output, Nat.le_trans hs.size hg.size, fun k hk n7 n8 => ?_, ?_, ?_⟩
  · exact (hg.block k (Nat.lt_of_lt_of_le hk hs.size) (ne k hk)).trans (hs.block k hk n7 n8)
  · exact (hg.block g7 (Nat.lt_of_lt_of_le h7 hs.size) (ne _ h7)).trans hs.b7
  · exact (hg.block g8 (Nat.lt_of_lt_of_le h8 hs.size) (ne _ h8)).trans hs.b8
def slL (T : Nat → List Int) (pre : List R64) : Int × Int := pre.foldl (fun s x => slT (x.v : Int) (T x.v) s.1 s.2) (0, -1)
theorem slL_snoc (T : Nat → List Int) (pre : List R64) (x : R64) : slL T (pre ++ [x]) = slT (x.v : Int) (T x.v) (slL T pre).1 (slL T pre).2 := by simp [slL]
theorem slL_nums (T : Nat → List Int) : ∀ (N : Nat), N ≤ 64 → slL T (numsL N) = slR T N
  | 0, _ => rfl
  | N + 1, h => by rw [numsL_succ, slL_snoc, slL_nums T N (by omega), mk64_v (by omega)]; rfl
set_option maxRecDepth 100000 in
set_option maxHeartbeats 16000000 in
theorem implSlowestRow_any (b k q m n r : Nat) (wd hi : Int) (l : List Pc) (p : List Po) (c : List Cl) (w : World) (hp : PcsAt w b 0 l) (hg : PosAt w k 0 p) (hj : ClsAt w q 0 c) (zb : b < w.heap.size) (zk : k < w.heap.size) (zq : q < w.heap.size)
    (hm : l.length = m) (hn : p.length = n) (hr : c.length = r) (h8 : All8 l) (hw : PosWf p) (bw : i8 wd) (bh : i8 hi) (m0 : m ≤ 1048576) (m1 : n ≤ 1048576) (m2 : r ≤ 1048576) (M : Bool) (hM : M = machOk wd hi l p c) (F : Nat → List Fl) (hF : M = true → AnsAt wd hi l p c n F) (N : Nat) (hN : 2 ^ n = N) (hst : StayAt w) (E1 E2 C : Int) (hQ : srQ M (slR (fun j => ticksL l (F j) c) N) = (E1, E2, C)) :
    Calls Tryz.prog 19 #[.agg #[.int .i8 wd, .int .i8 hi, .slice (some ⟨b, 0, none⟩) m m, .slice (some ⟨k, 0, none⟩) n n, .slice (some ⟨q, 0, none⟩) r r]] w (fun e w' => e = .returned (.tuple #[.int .i64 E1, .int .i64 E2, .int .i64 C]) ∧ Below w.heap.size w w') := by
  have ka : Below w.heap.size w (w.alloc (.cells #[.int .i8 wd, .int .i8 hi, .slice (some ⟨b, 0, none⟩) m m, .slice (some ⟨k, 0, none⟩) n n, .slice (some ⟨q, 0, none⟩) r r] 40)) := by repeat (first | with_reducible exact Below.refl _ _ | (with_reducible refine kSet ?_ ?hB _; case hB => (simp; try omega)) | with_reducible refine kAlloc ?_ _ | with_reducible refine Below.drew ?_ | with_reducible refine kDrewN ?_ _ | with_reducible refine kTrans ?_ (by assumption))
  have HV := Lib.hid (by have h := deviceOf_any b k q wd hi l p c _ (hp.below ka zb) (hg.below ka zk) (hj.below ka zq) (Nat.lt_of_lt_of_le zb ka.size) (Nat.lt_of_lt_of_le zk ka.size) (Nat.lt_of_lt_of_le zq ka.size) h8 hw (by omega) (by omega) (by omega) M hM; rw [hm, hn, hr] at h; exact h)
  have HS := Lib.hid (fun W (h : Below w.heap.size w W) => hst.below h)
  have HP := Lib.hid (fun W (h : Below w.heap.size w W) => hp.below h zb)
  have HG := Lib.hid (fun W (h : Below w.heap.size w W) => hg.below h zk)
  have HC := Lib.hid (fun W (h : Below w.heap.size w W) => hj.below h zq)
  have HFF := Lib.hid hF
  have HNN := Lib.hid hN
  have HM := Lib.hid hM
  have Hn := Lib.hid hn
  have Hm := Lib.hid hm
  have Hr := Lib.hid hr
  have HQ := Lib.hid hQ
  clear hp hg hj h8 hw hst hM hn hm hr hF hN hQ
  cases M with
  | false =>
    obtain ⟨rfl, rfl, rfl⟩ := tri_SR (show ((0 : Int), (0 : Int), (1 : Int)) = (E1, E2, C) from HQ.out)
    clear HQ HP HG HC HFF HM HNN
    refine (callsIn_wide (n := 8)).1 ?_
    refine callsIn_of_wp_marks Tryz.func19 rfl trivial ?_ rfl
    simp only [Tryz.ntmps19, List.size_toArray, List.length_cons, List.length_nil, Nat.reduceAdd, Nat.reduceSub, Array.replicate_succ, Array.replicate_zero, List.push_toArray, List.append_toArray, List.nil_append, List.cons_append]
    refine wpIn_wide.2 ?_
    go_wp2_with fail
    refine HV.out.mono ?_
    rintro e w1 ⟨_, h1, hb1⟩
    obtain rfl := h1 rfl
    have T1 := kTrans ka hb1
    clear HV h1 hb1
    go_wp2
    exact ⟨.tuple #[.int .i64 0, .int .i64 0, .int .i64 1], by simp [results, Tryz.results19, go_sem], rfl, by repeat (first | with_reducible exact Below.refl _ _ | (with_reducible refine kSet ?_ ?hB _; case hB => (simp; try omega)) | with_reducible refine kAlloc ?_ _ | with_reducible refine Below.drew ?_ | with_reducible refine kDrewN ?_ _ | with_reducible refine kTrans ?_ (by assumption))⟩
  | true =>
    have hmp := machOk_parts HM.out.symm
    rw [Hm.out, Hn.out, Hr.out] at hmp
    have h6 := hmp.2.1.2.1.2
    have hr8 := hmp.2.1.2.2.2
    have hr1 := hmp.2.1.2.2.1
    have h60 := hmp.2.1.1
    have Hf := Lib.hid (HFF.out rfl)
    obtain ⟨hN64, hN1, hpn⟩ := pow_N h6 HNN.out
    clear hmp HFF
    obtain ⟨T, hT⟩ : ∃ T : Nat → List Int, T = fun j => ticksL l (F j) c := ⟨_, rfl⟩
    have HTE := Lib.hid (fun j : Nat => (show ticksL l (F j) c = T j by rw [hT]))
    have HTL := Lib.hid (fun j : Nat => (show (T j).length = r by rw [hT]; simp only [ticksL_length]; exact Hr.out))
    have HTS : Hid (∀ j : Nat, ∀ x ∈ T j, x = -1 ∨ (0 ≤ x ∧ x ≤ 2800)) := Lib.hid (fun j => by rw [hT]; exact (Hf.out j).ticks_wf)
    have HQ2 := Lib.hid (show (if (slR T N).2 < 0 then ((0 : Int), (0 : Int), (6 : Int)) else ((slR T N).1, (slR T N).2, 0)) = (E1, E2, C) by rw [hT]; exact HQ.out)
    clear hT HQ
    refine (callsIn_wide (n := 8)).1 ?_
    refine callsIn_of_wp_marks Tryz.func19 rfl trivial ?_ rfl
    simp only [Tryz.ntmps19, List.size_toArray, List.length_cons, List.length_nil, Nat.reduceAdd, Nat.reduceSub, Array.replicate_succ, Array.replicate_zero, List.push_toArray, List.append_toArray, List.nil_append, List.cons_append]
    refine wpIn_wide.2 ?_
    go_wp2_with fail
    refine HV.out.mono ?_
    rintro e w1 ⟨h1, _, hb1⟩
    obtain ⟨B, rfl, hmpB⟩ := h1 rfl
    have T1 := kTrans ka hb1
    have HMp := Lib.hid hmpB
    clear HV h1 hb1 hmpB
    obtain ⟨W, hW⟩ : ∃ W, w1.alloc (.cells #[.int .i8 wd, .int .i8 hi, .map (some B), .int .i8 wd, .int .i8 hi, .slice (some ⟨b, 0, none⟩) m m, .slice (some ⟨k, 0, none⟩) n n, .slice (some ⟨q, 0, none⟩) r r] 79) = W := ⟨_, rfl⟩
    have kW : Below w1.heap.size w1 W := by rw [← hW]; exact kAlloc (Below.refl _ _) _
    have bD : W.heap[w1.heap.size]? = some (.cells #[.int .i8 wd, .int .i8 hi, .map (some B), .int .i8 wd, .int .i8 hi, .slice (some ⟨b, 0, none⟩) m m, .slice (some ⟨k, 0, none⟩) n n, .slice (some ⟨q, 0, none⟩) r r] 79 (0, 0)) := by rw [← hW]; exact heap_alloc_new _ _
    have HD := Lib.hid (fun W2 (h2 : Below w1.heap.size w1 W2) => (⟨HMp.out.below h2, HP.out _ (kTrans T1 h2), HG.out _ (kTrans T1 h2), HC.out _ (kTrans T1 h2), Nat.lt_of_lt_of_le zb (kTrans T1 h2).size, Nat.lt_of_lt_of_le zk (kTrans T1 h2).size, Nat.lt_of_lt_of_le zq (kTrans T1 h2).size, HS.out _ (kTrans T1 h2)⟩ : DvAt W2 B b k q l p c))
    have HW := Lib.hid hW
    have lD := blk_lt bD
    have BD := Lib.hid (fun W2 (h2 : Below W.heap.size W W2) => blk_below bD h2)
    have hWW : Hid (W.heap.size = w1.heap.size + 1) := Lib.hid (by rw [← hW]; simp)
    have c0 : W.cell? ⟨w1.heap.size, 0, none⟩ = some (.int .i8 wd) := cell_of_row _ _ 0 _ _ _ (bD)
    have c1 : W.cell? ⟨w1.heap.size, 1, none⟩ = some (.int .i8 hi) := cell_of_row _ _ 1 _ _ _ (bD)
    have c2 : W.cell? ⟨w1.heap.size, 2, none⟩ = some (.map (some B)) := cell_of_row _ _ 2 _ _ _ (bD)
    have c3 : W.cell? ⟨w1.heap.size, 3, none⟩ = some (.int .i8 wd) := cell_of_row _ _ 3 _ _ _ (bD)
    have c4 : W.cell? ⟨w1.heap.size, 4, none⟩ = some (.int .i8 hi) := cell_of_row _ _ 4 _ _ _ (bD)
    have c5 : W.cell? ⟨w1.heap.size, 5, none⟩ = some (.slice (some ⟨b, 0, none⟩) m m) := cell_of_row _ _ 5 _ _ _ (bD)
    have c6 : W.cell? ⟨w1.heap.size, 6, none⟩ = some (.slice (some ⟨k, 0, none⟩) n n) := cell_of_row _ _ 6 _ _ _ (bD)
    have c7 : W.cell? ⟨w1.heap.size, 7, none⟩ = some (.slice (some ⟨q, 0, none⟩) r r) := cell_of_row _ _ 7 _ _ _ (bD)
    clear hW bD
    go_upto_region 2 with fail
    try rw [HW.out]
    clear HW
    have HST := Lib.hid (HS.out _ (kTrans T1 kW))
    have zg := HST.out.1.1
    have z0 := HST.out.2
    have HZG := Lib.hid zg
    have hWl : w1.heap.size < W.heap.size := by have := hWW.out; omega
    go_wp2
    refine regionW_of_H (fun W' => W'.cell? ⟨0, 0, none⟩ = some (.int .i64 (-1))) (by kernel_rfl) zg (fun hHeld => ?_)
    refine wpAnyH_take (i := 0) (v := .pointer (some ⟨0, 0, none⟩)) rfl (by kernel_rfl) (by kernel_rfl) (by kernel_rfl) (fun _ _ _ h => absurd h.1 (by simp)) (Or.inl ⟨by rfl, fun w7 hSw => ?_⟩) (by assumption) ?_
    · clear c0 c1 c2 c3 c4 c5 c6 c7
      go_simp
    try simp only [Act.put, List.setIfInBounds_toArray, List.set_cons_zero, List.set_cons_succ]
    refine wpAnyH_take (i := 1) (v := .int .i64 (-1)) rfl (by kernel_rfl) (by kernel_rfl) (by kernel_rfl) (fun _ _ _ h => absurd h.1 (by simp)) (Or.inl ⟨by rfl, fun w7 hSw => ?_⟩) (by assumption) ?_
    · clear c0 c1 c2 c3 c4 c5 c6 c7 zg
      have zz : w7.cell? ⟨0, 0, none⟩ = some (.int .i64 (-1)) := hSw
      clear hSw
      go_simp
    try simp only [Act.put, List.setIfInBounds_toArray, List.set_cons_zero, List.set_cons_succ]
    clear c0 c1 c2 c3 c4 c5 c6 c7 zg
    refine wpAnyH_ready (rs := [2, 3]) (by kernel_rfl) (by simp) ?_
    refine AllReadyH.cons rfl (fun K hK => ?_) (AllReadyH.cons rfl (fun K hK => ?_) AllReadyH.nil)
    · skip
      go_simp
      refine hK.out _ _ (show _ = _ from (Below.cell (p := ⟨0, 0, none⟩) (show Below W.heap.size W _ from by repeat (first | with_reducible exact Below.refl _ _ | (with_reducible refine kSet ?_ ?hB _; case hB => (simp; try omega)) | with_reducible refine kAlloc ?_ _ | with_reducible refine Below.drew ?_ | with_reducible refine kDrewN ?_ _ | with_reducible refine kTrans ?_ (by assumption))) z0).trans HZG.out) (fun hHeld => ?_)
      clear hK K
      refine wpAnyH_ready (rs := [3]) (by kernel_rfl) (by simp) ?_
      refine AllReadyH.cons rfl (fun K hK => ?_) AllReadyH.nil
      go_simp
      refine hK.out _ _ (show _ = _ from (Below.cell (p := ⟨0, 0, none⟩) (show Below W.heap.size W _ from by repeat (first | with_reducible exact Below.refl _ _ | (with_reducible refine kSet ?_ ?hB _; case hB => (simp; try omega)) | with_reducible refine kAlloc ?_ _ | with_reducible refine Below.drew ?_ | with_reducible refine kDrewN ?_ _ | with_reducible refine kTrans ?_ (by assumption))) z0).trans HZG.out) (fun hHeld => ?_)
      clear hK K
      refine wpAnyH_ready (rs := [4]) (by kernel_rfl) (by simp) ?_
      refine AllReadyH.cons rfl (fun K hK => ?_) AllReadyH.nil
      go_simp
      refine hK.out _ _ (show _ = _ from (Below.cell (p := ⟨0, 0, none⟩) (show Below W.heap.size W _ from by repeat (first | with_reducible exact Below.refl _ _ | (with_reducible refine kSet ?_ ?hB _; case hB => (simp; try omega)) | with_reducible refine kAlloc ?_ _ | with_reducible refine Below.drew ?_ | with_reducible refine kDrewN ?_ _ | with_reducible refine kTrans ?_ (by assumption))) z0).trans HZG.out) (fun hHeld => ?_)
      clear hK K
      refine wpAnyH_ready (rs := [5]) (by kernel_rfl) (by simp) ?_
      refine AllReadyH.cons rfl (fun K hK => ?_) AllReadyH.nil
      go_simp
      refine hK.out _ _ (show _ = _ from (Below.cell (p := ⟨0, 0, none⟩) (show Below W.heap.size W _ from by repeat (first | with_reducible exact Below.refl _ _ | (with_reducible refine kSet ?_ ?hB _; case hB => (simp; try omega)) | with_reducible refine kAlloc ?_ _ | with_reducible refine Below.drew ?_ | with_reducible refine kDrewN ?_ _ | with_reducible refine kTrans ?_ (by assumption))) z0).trans HZG.out) (fun hHeld => ?_)
      clear hK K hHeld
      refine wpAnyH_done (by kernel_rfl) ?_ _
      refine ⟨rfl, ?_⟩
      obtain ⟨W6, hW6⟩ : ∃ W6, ((W.alloc (.cells #[.int .i64 0] 2)).alloc (.cells #[.int .i64 (-1)] 2)).drew = W6 := ⟨_, rfl⟩
      try rw [hW6]
      have k6 : Below W.heap.size W W6 := by rw [← hW6]; exact Below.drew (kAlloc (kAlloc (Below.refl _ _) _) _)
      have s6 : W6.heap.size = W.heap.size + 1 + 1 := by rw [← hW6]; exact (World.size_alloc _ _).trans (by rw [World.size_alloc])
      have ba : Boxed W6 W.heap.size 2 (.int .i64 0) := by
        rw [← hW6]
        exact (Boxed.new W 2 (.int .i64 0)).alloc _
      have bb : Boxed W6 (W.heap.size + 1) 2 (.int .i64 (-1)) := by
        rw [← hW6]
        have h := Boxed.new (W.alloc (.cells #[.int .i64 0] 2)) 2 (.int .i64 (-1))
        rw [World.size_alloc] at h
        exact h
      obtain ⟨g7, hg7⟩ : ∃ g7, W.heap.size = g7 := ⟨_, rfl⟩
      obtain ⟨g8, hg8⟩ : ∃ g8, (W.heap.size + 1) = g8 := ⟨_, rfl⟩
      have n78 : g7 ≠ g8 := by omega
      have l7 : W.heap.size ≤ g7 ∧ g7 < W6.heap.size := by omega
      have l8 : W.heap.size ≤ g8 ∧ g8 < W6.heap.size := by omega
      rw [hg7] at ba
      rw [hg8] at bb
      rw [hg8, hg7]
      have HB7 : Hid (Boxed W6 g7 2 (.int .i64 0)) := Lib.hid ba
      have HB8 : Hid (Boxed W6 g8 2 (.int .i64 (-1))) := Lib.hid bb
      skip
      have bD6 := BD.out W6 k6
      have HK6 := Lib.hid k6
      have HBD6 := Lib.hid bD6
      clear hW6 hg7 hg8 ba bb s6
      have c0 : W6.cell? ⟨w1.heap.size, 0, none⟩ = some (.int .i8 wd) := cell_of_row _ _ 0 _ _ _ (bD6)
      have c1 : W6.cell? ⟨w1.heap.size, 1, none⟩ = some (.int .i8 hi) := cell_of_row _ _ 1 _ _ _ (bD6)
      have c2 : W6.cell? ⟨w1.heap.size, 2, none⟩ = some (.map (some B)) := cell_of_row _ _ 2 _ _ _ (bD6)
      have c3 : W6.cell? ⟨w1.heap.size, 3, none⟩ = some (.int .i8 wd) := cell_of_row _ _ 3 _ _ _ (bD6)
      have c4 : W6.cell? ⟨w1.heap.size, 4, none⟩ = some (.int .i8 hi) := cell_of_row _ _ 4 _ _ _ (bD6)
      have c5 : W6.cell? ⟨w1.heap.size, 5, none⟩ = some (.slice (some ⟨b, 0, none⟩) m m) := cell_of_row _ _ 5 _ _ _ (bD6)
      have c6 : W6.cell? ⟨w1.heap.size, 6, none⟩ = some (.slice (some ⟨k, 0, none⟩) n n) := cell_of_row _ _ 6 _ _ _ (bD6)
      have c7 : W6.cell? ⟨w1.heap.size, 7, none⟩ = some (.slice (some ⟨q, 0, none⟩) r r) := cell_of_row _ _ 7 _ _ _ (bD6)
      clear bD6 k6
      go_wp2_with fail
      refine (rows_any wd hi B m n r _ _ _ _ _ _ _).mono ?_
      rintro e w7 ⟨rfl, rfl⟩
      clear c0 c1 c2 c3 c4 c5 c6 c7
      go_wp2
      refine (wpIn_wide (n := 8)).1 ?_
      obtain ⟨W7, hW7⟩ : ∃ W7, W6.alloc (.cells #[.int .i8 wd, .int .i8 hi, .map (some B), .int .i8 wd, .int .i8 hi, .slice (some ⟨b, 0, none⟩) m m, .slice (some ⟨k, 0, none⟩) n n, .slice (some ⟨q, 0, none⟩) r r] 79) = W7 := ⟨_, rfl⟩
      rw [hW7]
      have k7 : Below W6.heap.size W6 W7 := by rw [← hW7]; exact kAlloc (Below.refl _ _) _
      have s7 : W7.heap.size = W6.heap.size + 1 := by rw [← hW7]; simp
      have bR : W7.heap[W6.heap.size]? = some (.cells #[.int .i8 wd, .int .i8 hi, .map (some B), .int .i8 wd, .int .i8 hi, .slice (some ⟨b, 0, none⟩) m m, .slice (some ⟨k, 0, none⟩) n n, .slice (some ⟨q, 0, none⟩) r r] 79 (0, 0)) := by rw [← hW7]; exact heap_alloc_new _ _
      have H7 := Lib.hid (blk_below HB7.out k7)
      have H8 := Lib.hid (blk_below HB8.out k7)
      have HBD7 := Lib.hid (blk_below HBD6.out k7)
      have HK17 := Lib.hid (kTrans kW (kTrans HK6.out k7))
      have HRa := Lib.hid bR
      have hT1 := T1.size
      have s7' : W6.heap.size < W7.heap.size := by omega
      have HT1 := Lib.hid T1
      clear hW7 k7 bR T1 kW HB7 HB8 HBD6 HK6 s7
      have HRG := Lib.hid (slR_range (T := T) (N := N) (fun j _ => HTS.out j) hN64)
      refine wpIn_rangeFunc_ownH rfl (by omega) (gf := 84) (lb := #[.pointer (some ⟨W6.heap.size, 0, none⟩)]) rfl trivial enters_rows
        (rows_stops (fun k => k = W6.heap.size) 7 (by omega) W6.heap.size B m n r _ _ _ _ _ _ wd hi W7 h6 N HNN.out HRa.out rfl (fun k hk => by rw [hk]; omega)) KS.trans
        (fun W l o o' hl ho _ _ => ⟨(grownBy_putObj' W l o').size, fun k hk => (grownBy_putObj' W l o').block k (by have := blk_lt ho; rw [hk]; omega) (fun e => by cases e; omega)⟩)
        (Below.refl _ _) (fun _ => rfl)
        (fun (pre : List R64) W => SrI W7 g7 g8 (slL T pre).1 (slL T pre).2 W)
        (fun _ _ _ => False)
        (SrI.own (slL T) (by omega) (by omega))
        (fun _ _ _ _ _ hs _ _ => hs)
        ⟨rfl, rfl, rfl, Nat.le_refl _, fun _ _ _ _ => rfl, H7.out, H8.out⟩
        (fun x a' W => a' = { tmps := #[.agg #[.int .i8 wd, .int .i8 hi, .slice (some ⟨b, 0, none⟩) m m, .slice (some ⟨k, 0, none⟩) n n, .slice (some ⟨q, 0, none⟩) r r], .pointer (some ⟨w.heap.size, 0, none⟩), .int .i64 0, .int .i64 0, .int .i64 0, .pointer (some ⟨w1.heap.size, 0, none⟩), .bool true, .pointer (some ⟨g7, 0, none⟩), .pointer (some ⟨g8, 0, none⟩), .int .i64 (x.v : Int), undef, .tuple #[.agg #[.int .i8 wd, .int .i8 hi, .map (some B), .int .i8 wd, .int .i8 hi, .slice (some ⟨b, 0, none⟩) m m, .slice (some ⟨k, 0, none⟩) n n, .slice (some ⟨q, 0, none⟩) r r], .bool true], .agg #[.int .i8 wd, .int .i8 hi, .slice (some ⟨b, 0, none⟩) m m, .slice (some ⟨k, 0, none⟩) n n, .slice (some ⟨q, 0, none⟩) r r], .tuple #[.agg #[.int .i8 wd, .int .i8 hi, .map (some B), .int .i8 wd, .int .i8 hi, .slice (some ⟨b, 0, none⟩) m m, .slice (some ⟨k, 0, none⟩) n n, .slice (some ⟨q, 0, none⟩) r r], .bool true], .agg #[.int .i8 wd, .int .i8 hi, .map (some B), .int .i8 wd, .int .i8 hi, .slice (some ⟨b, 0, none⟩) m m, .slice (some ⟨k, 0, none⟩) n n, .slice (some ⟨q, 0, none⟩) r r], .bool true, .bool true, .bool false, .pointer (some ⟨0, 0, none⟩), .int .i64 (-1), .agg #[.int .i8 wd, .int .i8 hi, .map (some B), .int .i8 wd, .int .i8 hi, .slice (some ⟨b, 0, none⟩) m m, .slice (some ⟨k, 0, none⟩) n n, .slice (some ⟨q, 0, none⟩) r r], .func (.func 84) #[] #[.pointer (some ⟨W6.heap.size, 0, none⟩)], .int .i64 (x.v : Int), undef, undef, undef, undef, undef, undef, undef, undef, undef, undef, undef, undef, undef, undef, undef], defers := [] })
        (fun x a' _ _ _ _ hs _ _ => hs)
        ?assign7 ?body7 ?done7 ?stop7
      case assign7 =>
        rintro lp pre x W K hi hK
        have HK := Lib.hid hK
        have HI := Lib.hid hi
        clear hK hi
        unfold encR
        gi_wp2
        try rw [Oper.semAt_eq _ _ _ (fun c h => by cases h)]
        try go_simp
        try gi_wp2
        exact HK.out _ _ ((KeepsOthers.refl _).from _) (KS.refl _ _) HI.out rfl
      case body7 =>
        rintro lp pre x a' W' hlp _ hI rfl hlt
        obtain ⟨sa, hsa⟩ : ∃ sa, (slL T pre).1 = sa := ⟨_, rfl⟩
        obtain ⟨sb, hsb⟩ : ∃ sb, (slL T pre).2 = sb := ⟨_, rfl⟩
        rw [hsa, hsb] at hI
        have hk0 := HK17.out
        have kw1 : Below w1.heap.size w1 W' := ⟨hI.os.trans hk0.os, hI.tape.trans hk0.tape, hI.output.trans hk0.output, Nat.le_trans hk0.size hI.size, fun k hk => (hI.block k (Nat.lt_of_lt_of_le hk hk0.size) (by omega) (by omega)).trans (hk0.block k hk)⟩
        have bDW := (hI.block w1.heap.size (by omega) (by omega) (by omega)).trans HBD7.out
        have hx64 := x.lt
        have HTK := Lib.hid (ticksN_any B b k q m n r wd hi x.v l p c (zeros n) W' (HD.out _ kw1) Hm.out Hn.out Hr.out (zeros_length n) (noneTold W') h6 hr8 (by omega) (zeros_late n) (F x.v) (Hf.out x.v) (T x.v) (HTE.out x.v))
        have HI := Lib.hid hI
        have hsn := slL_snoc T pre x
        rw [hsa, hsb] at hsn
        have hLl := HTL.out x.v
        obtain ⟨L, hL⟩ : ∃ L, T x.v = L := ⟨_, rfl⟩
        rw [hL] at hsn hLl HTK
        clear hsa hsb hk0 kw1 hI hL
        have c0 : W'.cell? ⟨w1.heap.size, 0, none⟩ = some (.int .i8 wd) := cell_of_row _ _ 0 _ _ _ (bDW)
        have c1 : W'.cell? ⟨w1.heap.size, 1, none⟩ = some (.int .i8 hi) := cell_of_row _ _ 1 _ _ _ (bDW)
        have c2 : W'.cell? ⟨w1.heap.size, 2, none⟩ = some (.map (some B)) := cell_of_row _ _ 2 _ _ _ (bDW)
        have c3 : W'.cell? ⟨w1.heap.size, 3, none⟩ = some (.int .i8 wd) := cell_of_row _ _ 3 _ _ _ (bDW)
        have c4 : W'.cell? ⟨w1.heap.size, 4, none⟩ = some (.int .i8 hi) := cell_of_row _ _ 4 _ _ _ (bDW)
        have c5 : W'.cell? ⟨w1.heap.size, 5, none⟩ = some (.slice (some ⟨b, 0, none⟩) m m) := cell_of_row _ _ 5 _ _ _ (bDW)
        have c6 : W'.cell? ⟨w1.heap.size, 6, none⟩ = some (.slice (some ⟨k, 0, none⟩) n n) := cell_of_row _ _ 6 _ _ _ (bDW)
        have c7 : W'.cell? ⟨w1.heap.size, 7, none⟩ = some (.slice (some ⟨q, 0, none⟩) r r) := cell_of_row _ _ 7 _ _ _ (bDW)
        clear bDW
        gi_wp2_with fail
        repeat (rw [Oper.semAt_eq _ _ _ (fun c h => by cases h)]; go_simp; try gi_wp2_with fail)
        refine ⟨trivial, (CallsIn.inRound _ (callsIn_wide.2 HTK.out)).mono ?_⟩
        rintro e w5 ⟨v, rfl, hv, hb5⟩
        obtain ⟨va, vc, rfl⟩ := hv.form
        have hv2 := hv.sl
        clear HTK hv c0 c1 c2 c3 c4 c5 c6 c7
        cases L with
        | nil => exact absurd hLl (by simp; omega)
        | cons x0 R =>
          obtain ⟨M, hM⟩ : ∃ M, maxL R x0 = M := ⟨_, rfl⟩
          rw [slT_maxL _ x0 R sa sb M hM] at hsn
          have HSN := Lib.hid hsn
          obtain ⟨N2, hN2⟩ : ∃ N2, (x0 :: R).length = N2 := ⟨_, rfl⟩
          rw [hN2] at hv2 ⊢
          obtain ⟨g, o, rfl, hIn, hgl, hcl, -⟩ := slIn_some hv2 (by simp)
          rw [hN2] at hcl
          have HMX := Lib.hid (maxI_any g o N2 vc x0 R w5 (by rw [← hN2]; rfl) (by omega) hIn hgl hcl M hM)
          have HB7 := Lib.hid (show Boxed w5 g7 2 (.int .i64 sa) from blk_below HI.out.b7 hb5)
          have HB8 := Lib.hid (show Boxed w5 g8 2 (.int .i64 sb) from blk_below HI.out.b8 hb5)
          have HB5 := Lib.hid hb5
          clear hsn hv2 hN2 hIn hM hb5 hLl hgl hcl
          gi_wp2_with fail
          repeat (rw [Oper.semAt_eq _ _ _ (fun c h => by cases h)]; go_simp; try gi_wp2_with fail)
          refine ⟨trivial, (CallsIn.inRound _ (callsIn_wide.2 HMX.out)).mono ?_⟩
          rintro e w6 ⟨rfl, rfl⟩
          have c7 := HB7.out.cell
          have f7 := HB7.out.frozen
          have c8 := HB8.out.cell
          have f8 := HB8.out.frozen
          clear HMX
          by_cases hgt : sb < M
          · have hgt' : decide (sb < M) = true := by simpa using hgt
            have d8 := (show Boxed (w5.setCell ⟨g7, 0, none⟩ (.int .i64 (x.v : Int))) g8 2 (.int .i64 sb) from blk_set HB8.out (show g8 ≠ g7 from fun e => n78 e.symm)).cell
            have e8 := (show Boxed (w5.setCell ⟨g7, 0, none⟩ (.int .i64 (x.v : Int))) g8 2 (.int .i64 sb) from blk_set HB8.out (show g8 ≠ g7 from fun e => n78 e.symm)).frozen
            have hgt0 := Lib.hid hgt
            clear hgt
            gi_wp2
            repeat (rw [Oper.semAt_eq _ _ _ (fun c h => by cases h)]; go_simp; try gi_wp2)
            have hend : ∀ k, k < W'.heap.size → k ≠ g7 → k ≠ g8 → ((w5.setCell ⟨g7, 0, none⟩ (.int .i64 (x.v : Int))).setCell ⟨g8, 0, none⟩ (.int .i64 M)).heap[k]? = W'.heap[k]? := fun k hk n7 n8 => ((Below.heap_setCell _ _ _ _ n8).trans ((Below.heap_setCell _ _ _ _ n7).trans (HB5.out.block k hk)))
            have hsz : W'.heap.size ≤ ((w5.setCell ⟨g7, 0, none⟩ (.int .i64 (x.v : Int))).setCell ⟨g8, 0, none⟩ (.int .i64 M)).heap.size := by simpa [World.setCell] using HB5.out.size
            refine ⟨⟨hsz, fun k o hkB hk ho => (hend k (blk_lt hk) (by omega) (by omega)).trans hk⟩, ⟨hsz, fun k hk => hend k (by rw [hk]; have := HI.out.size; omega) (by rw [hk]; omega) (by rw [hk]; omega)⟩, ?_⟩
            show SrI W7 g7 g8 (slL T (pre ++ [x])).1 (slL T (pre ++ [x])).2 _
            rw [HSN.out, if_pos hgt0.out]
            exact ⟨HB5.out.os.trans HI.out.os, HB5.out.tape.trans HI.out.tape, HB5.out.output.trans HI.out.output, Nat.le_trans HI.out.size hsz, fun k hk n7 n8 => (hend k (Nat.lt_of_lt_of_le hk HI.out.size) n7 n8).trans (HI.out.block k hk n7 n8), blk_set (Boxed.set _ HB7.out) (show g7 ≠ g8 from n78), Boxed.set _ (blk_set HB8.out (show g8 ≠ g7 from fun e => n78 e.symm))⟩
          · have hgt' : decide (sb < M) = false := by simpa using hgt
            have hgt0 := Lib.hid hgt
            clear hgt
            gi_wp2
            repeat (rw [Oper.semAt_eq _ _ _ (fun c h => by cases h)]; go_simp; try gi_wp2)
            have hend : ∀ k, k < W'.heap.size → k ≠ g7 → k ≠ g8 → w5.heap[k]? = W'.heap[k]? := fun k hk n7 n8 => HB5.out.block k hk
            have hsz : W'.heap.size ≤ w5.heap.size := by exact HB5.out.size
            refine ⟨⟨hsz, fun k o hkB hk ho => (hend k (blk_lt hk) (by omega) (by omega)).trans hk⟩, ⟨hsz, fun k hk => hend k (by rw [hk]; have := HI.out.size; omega) (by rw [hk]; omega) (by rw [hk]; omega)⟩, ?_⟩
            show SrI W7 g7 g8 (slL T (pre ++ [x])).1 (slL T (pre ++ [x])).2 _
            rw [HSN.out, if_neg (by have := hgt0.out; omega)]
            exact ⟨HB5.out.os.trans HI.out.os, HB5.out.tape.trans HI.out.tape, HB5.out.output.trans HI.out.output, Nat.le_trans HI.out.size hsz, fun k hk n7 n8 => (hend k (Nat.lt_of_lt_of_le hk HI.out.size) n7 n8).trans (HI.out.block k hk n7 n8), HB7.out, HB8.out⟩
      case done7 =>
        rintro D zs W' hDD rfl hI hK
        have hs0 := slL_nums T N hN64
        rw [hs0] at hI
        have hrg := HRG.out N (Nat.le_refl _)
        obtain ⟨sa, sb, hs⟩ : ∃ sa sb, slR T N = (sa, sb) := ⟨_, _, rfl⟩
        have hq := HQ2.out
        rw [hs] at hI hrg hq
        simp only at hI hrg hq
        have hk0 := HT1.out
        have hk1 := HK17.out
        have kw1 : Below w1.heap.size w1 W' := ⟨hI.os.trans hk1.os, hI.tape.trans hk1.tape, hI.output.trans hk1.output, Nat.le_trans hk1.size hI.size, fun k hk => (hI.block k (Nat.lt_of_lt_of_le hk hk1.size) (by omega) (by omega)).trans (hk1.block k hk)⟩
        have kw := kTrans hk0 kw1
        have cz : W'.cell? ⟨0, 0, none⟩ = some (.int .i64 (-1)) := (HS.out _ kw).1.1
        have c7 := hI.b7.cell
        have c8 := hI.b8.cell
        have HKW := Lib.hid (kw.grown (grownBy_putObj' W' D (.deferred none)) kw.size (fun j e' => by cases e'; omega))
        have HKWN := Lib.hid (fun m => (kDrewN kw m).grown (grownBy_putObj' (W'.drewN m) D (.deferred none)) (kDrewN kw m).size (fun j e' => by cases e'; omega))
        have HK := Lib.hid hK
        have HQ3 := Lib.hid hq
        have hsb := hrg.2.2
        clear hs0 hrg hs hq hk0 hk1 kw1 kw hK HQ2 hI
        by_cases h0 : sb = -1
        · have h0' : (sb == -1) = true := by simpa using h0
          obtain ⟨rfl, rfl, rfl⟩ := tri_SR (show ((0 : Int), (0 : Int), (6 : Int)) = (E1, E2, C) by rw [← HQ3.out, if_pos (by omega)])
          clear HQ3
          go_wp2
          refine ⟨by simp, .inl ⟨_, _, rfl, run_takeDeferred HK.out, ?_⟩⟩
          exact ⟨.tuple #[.int .i64 0, .int .i64 0, .int .i64 6], by simp [results, Tryz.results19, go_sem], rfl, HKW.out⟩
        · have h0' : (sb == -1) = false := by simpa using h0
          obtain ⟨rfl, rfl, rfl⟩ := tri_SR (show (sa, sb, (0 : Int)) = (E1, E2, C) by rw [← HQ3.out, if_neg (by omega)])
          clear HQ3
          go_wp2
          go_quiet (fail)
          go_wp2
          refine ⟨by simp, .inl ⟨_, _, rfl, run_takeDeferred (show (World.drewN _ _).heap[D]? = _ from HK.out), ?_⟩⟩
          exact ⟨.tuple #[.int .i64 sa, .int .i64 sb, .int .i64 0], by simp [results, Tryz.results19, go_sem], rfl, HKWN.out _⟩
      case stop7 =>
        rintro D c pre W _ _ h _
        exact h.elim
    · skip
      go_simp
      refine hK.out _ _ (show _ = _ from (Below.cell (p := ⟨0, 0, none⟩) (show Below W.heap.size W _ from by repeat (first | with_reducible exact Below.refl _ _ | (with_reducible refine kSet ?_ ?hB _; case hB => (simp; try omega)) | with_reducible refine kAlloc ?_ _ | with_reducible refine Below.drew ?_ | with_reducible refine kDrewN ?_ _ | with_reducible refine kTrans ?_ (by assumption))) z0).trans HZG.out) (fun hHeld => ?_)
      clear hK K
      refine wpAnyH_ready (rs := [2]) (by kernel_rfl) (by simp) ?_
      refine AllReadyH.cons rfl (fun K hK => ?_) AllReadyH.nil
      go_simp
      refine hK.out _ _ (show _ = _ from (Below.cell (p := ⟨0, 0, none⟩) (show Below W.heap.size W _ from by repeat (first | with_reducible exact Below.refl _ _ | (with_reducible refine kSet ?_ ?hB _; case hB => (simp; try omega)) | with_reducible refine kAlloc ?_ _ | with_reducible refine Below.drew ?_ | with_reducible refine kDrewN ?_ _ | with_reducible refine kTrans ?_ (by assumption))) z0).trans HZG.out) (fun hHeld => ?_)
      clear hK K
      refine wpAnyH_ready (rs := [4]) (by kernel_rfl) (by simp) ?_
      refine AllReadyH.cons rfl (fun K hK => ?_) AllReadyH.nil
      go_simp
      refine hK.out _ _ (show _ = _ from (Below.cell (p := ⟨0, 0, none⟩) (show Below W.heap.size W _ from by repeat (first | with_reducible exact Below.refl _ _ | (with_reducible refine kSet ?_ ?hB _; case hB => (simp; try omega)) | with_reducible refine kAlloc ?_ _ | with_reducible refine Below.drew ?_ | with_reducible refine kDrewN ?_ _ | with_reducible refine kTrans ?_ (by assumption))) z0).trans HZG.out) (fun hHeld => ?_)
      clear hK K
      refine wpAnyH_ready (rs := [5]) (by kernel_rfl) (by simp) ?_
      refine AllReadyH.cons rfl (fun K hK => ?_) AllReadyH.nil
      go_simp
      refine hK.out _ _ (show _ = _ from (Below.cell (p := ⟨0, 0, none⟩) (show Below W.heap.size W _ from by repeat (first | with_reducible exact Below.refl _ _ | (with_reducible refine kSet ?_ ?hB _; case hB => (simp; try omega)) | with_reducible refine kAlloc ?_ _ | with_reducible refine Below.drew ?_ | with_reducible refine kDrewN ?_ _ | with_reducible refine kTrans ?_ (by assumption))) z0).trans HZG.out) (fun hHeld => ?_)
      clear hK K hHeld
      refine wpAnyH_done (by kernel_rfl) ?_ _
      refine ⟨rfl, ?_⟩
      obtain ⟨W6, hW6⟩ : ∃ W6, ((W.alloc (.cells #[.int .i64 (-1)] 2)).alloc (.cells #[.int .i64 0] 2)).drew = W6 := ⟨_, rfl⟩
      try rw [hW6]
      have k6 : Below W.heap.size W W6 := by rw [← hW6]; exact Below.drew (kAlloc (kAlloc (Below.refl _ _) _) _)
      have s6 : W6.heap.size = W.heap.size + 1 + 1 := by rw [← hW6]; exact (World.size_alloc _ _).trans (by rw [World.size_alloc])
      have ba : Boxed W6 W.heap.size 2 (.int .i64 (-1)) := by
        rw [← hW6]
        exact (Boxed.new W 2 (.int .i64 (-1))).alloc _
      have bb : Boxed W6 (W.heap.size + 1) 2 (.int .i64 0) := by
        rw [← hW6]
        have h := Boxed.new (W.alloc (.cells #[.int .i64 (-1)] 2)) 2 (.int .i64 0)
        rw [World.size_alloc] at h
        exact h
      obtain ⟨g7, hg7⟩ : ∃ g7, (W.heap.size + 1) = g7 := ⟨_, rfl⟩
      obtain ⟨g8, hg8⟩ : ∃ g8, W.heap.size = g8 := ⟨_, rfl⟩
      have n78 : g7 ≠ g8 := by omega
      have l7 : W.heap.size ≤ g7 ∧ g7 < W6.heap.size := by omega
      have l8 : W.heap.size ≤ g8 ∧ g8 < W6.heap.size := by omega
      rw [hg8] at ba
      rw [hg7] at bb
      rw [hg7, hg8]
      have HB7 : Hid (Boxed W6 g7 2 (.int .i64 0)) := Lib.hid bb
      have HB8 : Hid (Boxed W6 g8 2 (.int .i64 (-1))) := Lib.hid ba
      skip
      have bD6 := BD.out W6 k6
      have HK6 := Lib.hid k6
      have HBD6 := Lib.hid bD6
      clear hW6 hg7 hg8 ba bb s6
      have c0 : W6.cell? ⟨w1.heap.size, 0, none⟩ = some (.int .i8 wd) := cell_of_row _ _ 0 _ _ _ (bD6)
      have c1 : W6.cell? ⟨w1.heap.size, 1, none⟩ = some (.int .i8 hi) := cell_of_row _ _ 1 _ _ _ (bD6)
      have c2 : W6.cell? ⟨w1.heap.size, 2, none⟩ = some (.map (some B)) := cell_of_row _ _ 2 _ _ _ (bD6)
      have c3 : W6.cell? ⟨w1.heap.size, 3, none⟩ = some (.int .i8 wd) := cell_of_row _ _ 3 _ _ _ (bD6)
      have c4 : W6.cell? ⟨w1.heap.size, 4, none⟩ = some (.int .i8 hi) := cell_of_row _ _ 4 _ _ _ (bD6)
      have c5 : W6.cell? ⟨w1.heap.size, 5, none⟩ = some (.slice (some ⟨b, 0, none⟩) m m) := cell_of_row _ _ 5 _ _ _ (bD6)
      have c6 : W6.cell? ⟨w1.heap.size, 6, none⟩ = some (.slice (some ⟨k, 0, none⟩) n n) := cell_of_row _ _ 6 _ _ _ (bD6)
      have c7 : W6.cell? ⟨w1.heap.size, 7, none⟩ = some (.slice (some ⟨q, 0, none⟩) r r) := cell_of_row _ _ 7 _ _ _ (bD6)
      clear bD6 k6
      go_wp2_with fail
      refine (rows_any wd hi B m n r _ _ _ _ _ _ _).mono ?_
      rintro e w7 ⟨rfl, rfl⟩
      clear c0 c1 c2 c3 c4 c5 c6 c7
      go_wp2
      refine (wpIn_wide (n := 8)).1 ?_
      obtain ⟨W7, hW7⟩ : ∃ W7, W6.alloc (.cells #[.int .i8 wd, .int .i8 hi, .map (some B), .int .i8 wd, .int .i8 hi, .slice (some ⟨b, 0, none⟩) m m, .slice (some ⟨k, 0, none⟩) n n, .slice (some ⟨q, 0, none⟩) r r] 79) = W7 := ⟨_, rfl⟩
      rw [hW7]
      have k7 : Below W6.heap.size W6 W7 := by rw [← hW7]; exact kAlloc (Below.refl _ _) _
      have s7 : W7.heap.size = W6.heap.size + 1 := by rw [← hW7]; simp
      have bR : W7.heap[W6.heap.size]? = some (.cells #[.int .i8 wd, .int .i8 hi, .map (some B), .int .i8 wd, .int .i8 hi, .slice (some ⟨b, 0, none⟩) m m, .slice (some ⟨k, 0, none⟩) n n, .slice (some ⟨q, 0, none⟩) r r] 79 (0, 0)) := by rw [← hW7]; exact heap_alloc_new _ _
      have H7 := Lib.hid (blk_below HB7.out k7)
      have H8 := Lib.hid (blk_below HB8.out k7)
      have HBD7 := Lib.hid (blk_below HBD6.out k7)
      have HK17 := Lib.hid (kTrans kW (kTrans HK6.out k7))
      have HRa := Lib.hid bR
      have hT1 := T1.size
      have s7' : W6.heap.size < W7.heap.size := by omega
      have HT1 := Lib.hid T1
      clear hW7 k7 bR T1 kW HB7 HB8 HBD6 HK6 s7
      have HRG := Lib.hid (slR_range (T := T) (N := N) (fun j _ => HTS.out j) hN64)
      refine wpIn_rangeFunc_ownH rfl (by omega) (gf := 84) (lb := #[.pointer (some ⟨W6.heap.size, 0, none⟩)]) rfl trivial enters_rows
        (rows_stops (fun k => k = W6.heap.size) 7 (by omega) W6.heap.size B m n r _ _ _ _ _ _ wd hi W7 h6 N HNN.out HRa.out rfl (fun k hk => by rw [hk]; omega)) KS.trans
        (fun W l o o' hl ho _ _ => ⟨(grownBy_putObj' W l o').size, fun k hk => (grownBy_putObj' W l o').block k (by have := blk_lt ho; rw [hk]; omega) (fun e => by cases e; omega)⟩)
        (Below.refl _ _) (fun _ => rfl)
        (fun (pre : List R64) W => SrI W7 g7 g8 (slL T pre).1 (slL T pre).2 W)
        (fun _ _ _ => False)
        (SrI.own (slL T) (by omega) (by omega))
        (fun _ _ _ _ _ hs _ _ => hs)
        ⟨rfl, rfl, rfl, Nat.le_refl _, fun _ _ _ _ => rfl, H7.out, H8.out⟩
        (fun x a' W => a' = { tmps := #[.agg #[.int .i8 wd, .int .i8 hi, .slice (some ⟨b, 0, none⟩) m m, .slice (some ⟨k, 0, none⟩) n n, .slice (some ⟨q, 0, none⟩) r r], .pointer (some ⟨w.heap.size, 0, none⟩), .int .i64 0, .int .i64 0, .int .i64 0, .pointer (some ⟨w1.heap.size, 0, none⟩), .bool true, .pointer (some ⟨g7, 0, none⟩), .pointer (some ⟨g8, 0, none⟩), .int .i64 (x.v : Int), undef, .tuple #[.agg #[.int .i8 wd, .int .i8 hi, .map (some B), .int .i8 wd, .int .i8 hi, .slice (some ⟨b, 0, none⟩) m m, .slice (some ⟨k, 0, none⟩) n n, .slice (some ⟨q, 0, none⟩) r r], .bool true], .agg #[.int .i8 wd, .int .i8 hi, .slice (some ⟨b, 0, none⟩) m m, .slice (some ⟨k, 0, none⟩) n n, .slice (some ⟨q, 0, none⟩) r r], .tuple #[.agg #[.int .i8 wd, .int .i8 hi, .map (some B), .int .i8 wd, .int .i8 hi, .slice (some ⟨b, 0, none⟩) m m, .slice (some ⟨k, 0, none⟩) n n, .slice (some ⟨q, 0, none⟩) r r], .bool true], .agg #[.int .i8 wd, .int .i8 hi, .map (some B), .int .i8 wd, .int .i8 hi, .slice (some ⟨b, 0, none⟩) m m, .slice (some ⟨k, 0, none⟩) n n, .slice (some ⟨q, 0, none⟩) r r], .bool true, .bool true, .bool false, .pointer (some ⟨0, 0, none⟩), .int .i64 (-1), .agg #[.int .i8 wd, .int .i8 hi, .map (some B), .int .i8 wd, .int .i8 hi, .slice (some ⟨b, 0, none⟩) m m, .slice (some ⟨k, 0, none⟩) n n, .slice (some ⟨q, 0, none⟩) r r], .func (.func 84) #[] #[.pointer (some ⟨W6.heap.size, 0, none⟩)], .int .i64 (x.v : Int), undef, undef, undef, undef, undef, undef, undef, undef, undef, undef, undef, undef, undef, undef, undef], defers := [] })
        (fun x a' _ _ _ _ hs _ _ => hs)
        ?assign8 ?body8 ?done8 ?stop8
      case assign8 =>
        rintro lp pre x W K hi hK
        have HK := Lib.hid hK
        have HI := Lib.hid hi
        clear hK hi
        unfold encR
        gi_wp2
        try rw [Oper.semAt_eq _ _ _ (fun c h => by cases h)]
        try go_simp
        try gi_wp2
        exact HK.out _ _ ((KeepsOthers.refl _).from _) (KS.refl _ _) HI.out rfl
      case body8 =>
        rintro lp pre x a' W' hlp _ hI rfl hlt
        obtain ⟨sa, hsa⟩ : ∃ sa, (slL T pre).1 = sa := ⟨_, rfl⟩
        obtain ⟨sb, hsb⟩ : ∃ sb, (slL T pre).2 = sb := ⟨_, rfl⟩
        rw [hsa, hsb] at hI
        have hk0 := HK17.out
        have kw1 : Below w1.heap.size w1 W' := ⟨hI.os.trans hk0.os, hI.tape.trans hk0.tape, hI.output.trans hk0.output, Nat.le_trans hk0.size hI.size, fun k hk => (hI.block k (Nat.lt_of_lt_of_le hk hk0.size) (by omega) (by omega)).trans (hk0.block k hk)⟩
        have bDW := (hI.block w1.heap.size (by omega) (by omega) (by omega)).trans HBD7.out
        have hx64 := x.lt
        have HTK := Lib.hid (ticksN_any B b k q m n r wd hi x.v l p c (zeros n) W' (HD.out _ kw1) Hm.out Hn.out Hr.out (zeros_length n) (noneTold W') h6 hr8 (by omega) (zeros_late n) (F x.v) (Hf.out x.v) (T x.v) (HTE.out x.v))
        have HI := Lib.hid hI
        have hsn := slL_snoc T pre x
        rw [hsa, hsb] at hsn
        have hLl := HTL.out x.v
        obtain ⟨L, hL⟩ : ∃ L, T x.v = L := ⟨_, rfl⟩
        rw [hL] at hsn hLl HTK
        clear hsa hsb hk0 kw1 hI hL
        have c0 : W'.cell? ⟨w1.heap.size, 0, none⟩ = some (.int .i8 wd) := cell_of_row _ _ 0 _ _ _ (bDW)
        have c1 : W'.cell? ⟨w1.heap.size, 1, none⟩ = some (.int .i8 hi) := cell_of_row _ _ 1 _ _ _ (bDW)
        have c2 : W'.cell? ⟨w1.heap.size, 2, none⟩ = some (.map (some B)) := cell_of_row _ _ 2 _ _ _ (bDW)
        have c3 : W'.cell? ⟨w1.heap.size, 3, none⟩ = some (.int .i8 wd) := cell_of_row _ _ 3 _ _ _ (bDW)
        have c4 : W'.cell? ⟨w1.heap.size, 4, none⟩ = some (.int .i8 hi) := cell_of_row _ _ 4 _ _ _ (bDW)
        have c5 : W'.cell? ⟨w1.heap.size, 5, none⟩ = some (.slice (some ⟨b, 0, none⟩) m m) := cell_of_row _ _ 5 _ _ _ (bDW)
        have c6 : W'.cell? ⟨w1.heap.size, 6, none⟩ = some (.slice (some ⟨k, 0, none⟩) n n) := cell_of_row _ _ 6 _ _ _ (bDW)
        have c7 : W'.cell? ⟨w1.heap.size, 7, none⟩ = some (.slice (some ⟨q, 0, none⟩) r r) := cell_of_row _ _ 7 _ _ _ (bDW)
        clear bDW
        gi_wp2_with fail
        repeat (rw [Oper.semAt_eq _ _ _ (fun c h => by cases h)]; go_simp; try gi_wp2_with fail)
        refine ⟨trivial, (CallsIn.inRound _ (callsIn_wide.2 HTK.out)).mono ?_⟩
        rintro e w5 ⟨v, rfl, hv, hb5⟩
        obtain ⟨va, vc, rfl⟩ := hv.form
        have hv2 := hv.sl
        clear HTK hv c0 c1 c2 c3 c4 c5 c6 c7
        cases L with
        | nil => exact absurd hLl (by simp; omega)
        | cons x0 R =>
          obtain ⟨M, hM⟩ : ∃ M, maxL R x0 = M := ⟨_, rfl⟩
          rw [slT_maxL _ x0 R sa sb M hM] at hsn
          have HSN := Lib.hid hsn
          obtain ⟨N2, hN2⟩ : ∃ N2, (x0 :: R).length = N2 := ⟨_, rfl⟩
          rw [hN2] at hv2 ⊢
          obtain ⟨g, o, rfl, hIn, hgl, hcl, -⟩ := slIn_some hv2 (by simp)
          rw [hN2] at hcl
          have HMX := Lib.hid (maxI_any g o N2 vc x0 R w5 (by rw [← hN2]; rfl) (by omega) hIn hgl hcl M hM)
          have HB7 := Lib.hid (show Boxed w5 g7 2 (.int .i64 sa) from blk_below HI.out.b7 hb5)
          have HB8 := Lib.hid (show Boxed w5 g8 2 (.int .i64 sb) from blk_below HI.out.b8 hb5)
          have HB5 := Lib.hid hb5
          clear hsn hv2 hN2 hIn hM hb5 hLl hgl hcl
          gi_wp2_with fail
          repeat (rw [Oper.semAt_eq _ _ _ (fun c h => by cases h)]; go_simp; try gi_wp2_with fail)
          refine ⟨trivial, (CallsIn.inRound _ (callsIn_wide.2 HMX.out)).mono ?_⟩
          rintro e w6 ⟨rfl, rfl⟩
          have c7 := HB7.out.cell
          have f7 := HB7.out.frozen
          have c8 := HB8.out.cell
          have f8 := HB8.out.frozen
          clear HMX
          by_cases hgt : sb < M
          · have hgt' : decide (sb < M) = true := by simpa using hgt
            have d8 := (show Boxed (w5.setCell ⟨g7, 0, none⟩ (.int .i64 (x.v : Int))) g8 2 (.int .i64 sb) from blk_set HB8.out (show g8 ≠ g7 from fun e => n78 e.symm)).cell
            have e8 := (show Boxed (w5.setCell ⟨g7, 0, none⟩ (.int .i64 (x.v : Int))) g8 2 (.int .i64 sb) from blk_set HB8.out (show g8 ≠ g7 from fun e => n78 e.symm)).frozen
            have hgt0 := Lib.hid hgt
            clear hgt
            gi_wp2
            repeat (rw [Oper.semAt_eq _ _ _ (fun c h => by cases h)]; go_simp; try gi_wp2)
            have hend : ∀ k, k < W'.heap.size → k ≠ g7 → k ≠ g8 → ((w5.setCell ⟨g7, 0, none⟩ (.int .i64 (x.v : Int))).setCell ⟨g8, 0, none⟩ (.int .i64 M)).heap[k]? = W'.heap[k]? := fun k hk n7 n8 => ((Below.heap_setCell _ _ _ _ n8).trans ((Below.heap_setCell _ _ _ _ n7).trans (HB5.out.block k hk)))
            have hsz : W'.heap.size ≤ ((w5.setCell ⟨g7, 0, none⟩ (.int .i64 (x.v : Int))).setCell ⟨g8, 0, none⟩ (.int .i64 M)).heap.size := by simpa [World.setCell] using HB5.out.size
            refine ⟨⟨hsz, fun k o hkB hk ho => (hend k (blk_lt hk) (by omega) (by omega)).trans hk⟩, ⟨hsz, fun k hk => hend k (by rw [hk]; have := HI.out.size; omega) (by rw [hk]; omega) (by rw [hk]; omega)⟩, ?_⟩
            show SrI W7 g7 g8 (slL T (pre ++ [x])).1 (slL T (pre ++ [x])).2 _
            rw [HSN.out, if_pos hgt0.out]
            exact ⟨HB5.out.os.trans HI.out.os, HB5.out.tape.trans HI.out.tape, HB5.out.output.trans HI.out.output, Nat.le_trans HI.out.size hsz, fun k hk n7 n8 => (hend k (Nat.lt_of_lt_of_le hk HI.out.size) n7 n8).trans (HI.out.block k hk n7 n8), blk_set (Boxed.set _ HB7.out) (show g7 ≠ g8 from n78), Boxed.set _ (blk_set HB8.out (show g8 ≠ g7 from fun e => n78 e.symm))⟩
          · have hgt' : decide (sb < M) = false := by simpa using hgt
            have hgt0 := Lib.hid hgt
            clear hgt
            gi_wp2
            repeat (rw [Oper.semAt_eq _ _ _ (fun c h => by cases h)]; go_simp; try gi_wp2)
            have hend : ∀ k, k < W'.heap.size → k ≠ g7 → k ≠ g8 → w5.heap[k]? = W'.heap[k]? := fun k hk n7 n8 => HB5.out.block k hk
            have hsz : W'.heap.size ≤ w5.heap.size := by exact HB5.out.size
            refine ⟨⟨hsz, fun k o hkB hk ho => (hend k (blk_lt hk) (by omega) (by omega)).trans hk⟩, ⟨hsz, fun k hk => hend k (by rw [hk]; have := HI.out.size; omega) (by rw [hk]; omega) (by rw [hk]; omega)⟩, ?_⟩
            show SrI W7 g7 g8 (slL T (pre ++ [x])).1 (slL T (pre ++ [x])).2 _
            rw [HSN.out, if_neg (by have := hgt0.out; omega)]
            exact ⟨HB5.out.os.trans HI.out.os, HB5.out.tape.trans HI.out.tape, HB5.out.output.trans HI.out.output, Nat.le_trans HI.out.size hsz, fun k hk n7 n8 => (hend k (Nat.lt_of_lt_of_le hk HI.out.size) n7 n8).trans (HI.out.block k hk n7 n8), HB7.out, HB8.out⟩
      case done8 =>
        rintro D zs W' hDD rfl hI hK
        have hs0 := slL_nums T N hN64
        rw [hs0] at hI
        have hrg := HRG.out N (Nat.le_refl _)
        obtain ⟨sa, sb, hs⟩ : ∃ sa sb, slR T N = (sa, sb) := ⟨_, _, rfl⟩
        have hq := HQ2.out
        rw [hs] at hI hrg hq
        simp only at hI hrg hq
        have hk0 := HT1.out
        have hk1 := HK17.out
        have kw1 : Below w1.heap.size w1 W' := ⟨hI.os.trans hk1.os, hI.tape.trans hk1.tape, hI.output.trans hk1.output, Nat.le_trans hk1.size hI.size, fun k hk => (hI.block k (Nat.lt_of_lt_of_le hk hk1.size) (by omega) (by omega)).trans (hk1.block k hk)⟩
        have kw := kTrans hk0 kw1
        have cz : W'.cell? ⟨0, 0, none⟩ = some (.int .i64 (-1)) := (HS.out _ kw).1.1
        have c7 := hI.b7.cell
        have c8 := hI.b8.cell
        have HKW := Lib.hid (kw.grown (grownBy_putObj' W' D (.deferred none)) kw.size (fun j e' => by cases e'; omega))
        have HKWN := Lib.hid (fun m => (kDrewN kw m).grown (grownBy_putObj' (W'.drewN m) D (.deferred none)) (kDrewN kw m).size (fun j e' => by cases e'; omega))
        have HK := Lib.hid hK
        have HQ3 := Lib.hid hq
        have hsb := hrg.2.2
        clear hs0 hrg hs hq hk0 hk1 kw1 kw hK HQ2 hI
        by_cases h0 : sb = -1
        · have h0' : (sb == -1) = true := by simpa using h0
          obtain ⟨rfl, rfl, rfl⟩ := tri_SR (show ((0 : Int), (0 : Int), (6 : Int)) = (E1, E2, C) by rw [← HQ3.out, if_pos (by omega)])
          clear HQ3
          go_wp2
          refine ⟨by simp, .inl ⟨_, _, rfl, run_takeDeferred HK.out, ?_⟩⟩
          exact ⟨.tuple #[.int .i64 0, .int .i64 0, .int .i64 6], by simp [results, Tryz.results19, go_sem], rfl, HKW.out⟩
        · have h0' : (sb == -1) = false := by simpa using h0
          obtain ⟨rfl, rfl, rfl⟩ := tri_SR (show (sa, sb, (0 : Int)) = (E1, E2, C) by rw [← HQ3.out, if_neg (by omega)])
          clear HQ3
          go_wp2
          go_quiet (fail)
          go_wp2
          refine ⟨by simp, .inl ⟨_, _, rfl, run_takeDeferred (show (World.drewN _ _).heap[D]? = _ from HK.out), ?_⟩⟩
          exact ⟨.tuple #[.int .i64 sa, .int .i64 sb, .int .i64 0], by simp [results, Tryz.results19, go_sem], rfl, HKWN.out _⟩
      case stop8 =>
        rintro D c pre W _ _ h _
        exact h.elim
end Go.Proofs.YtcafoppnnlfmmaaGreatDoor
