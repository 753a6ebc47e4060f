/- PiecesOf: both sides. -/
import Derived.Test.YtlbnhdnmcnfgdaaDoorSp
namespace Go.Proofs.YtlbnhdnmcnfgdaaDoor
open Go.ChangeShapes Go.WideShapes Go.ChangeAt Go.RowKit Go.Joins Go.Deep
set_option linter.unusedVariables false
set_option linter.unusedSimpArgs false

/-- the pieces of a network's nodes -/
def pcN (l : List Nd) : Int := cntN 1 l + 3 * cntN 2 l + 5 * cntN 3 l
def pcQ (R : Bool) (l : List Nd) : Int × Int := if R = true then (pcN l, 0) else (0, 1)
theorem pair_PP {a c b d : Int} (h : (a, b) = (c, d)) : a = c ∧ b = d := by injection h with h1 h2; exact ⟨h1, h2⟩
theorem pcN_le (l : List Nd) : 0 ≤ pcN l ∧ pcN l ≤ 9 * l.length := by
  have h1 := cntN_le 1 l
  have h2 := cntN_le 2 l
  have h3 := cntN_le 3 l
  unfold pcN
  omega
theorem pcN_0 (p : Nd) (l : List Nd) (h : p.kind = 0) : pcN (l ++ [p]) = pcN l := by unfold pcN; rw [cntN_snoc, cntN_snoc, cntN_snoc, h]; simp
theorem pcN_1 (p : Nd) (l : List Nd) (h : p.kind = 1) : pcN (l ++ [p]) = pcN l + 1 := by unfold pcN; rw [cntN_snoc, cntN_snoc, cntN_snoc, h]; simp; omega
theorem pcN_2 (p : Nd) (l : List Nd) (h : p.kind = 2) : pcN (l ++ [p]) = pcN l + 3 := by unfold pcN; rw [cntN_snoc, cntN_snoc, cntN_snoc, h]; simp; omega
theorem pcN_3 (p : Nd) (l : List Nd) (h : p.kind = 3) : pcN (l ++ [p]) = pcN l + 5 := by unfold pcN; rw [cntN_snoc, cntN_snoc, cntN_snoc, h]; simp; omega
set_option maxRecDepth 100000 in
set_option maxHeartbeats 4000000 in
theorem specPiecesOf_any (b k : Nat) (ni : Int) (l : List Nd) (p : List Int) (w : World) (h : NK w b k l p) (h8 : NdsWf l) (h9 : ShsWf p) (bw : i8 ni) (m0 : l.length ≤ 1048576) (m1 : p.length ≤ 1048576) (R : Bool) (hR : R = netOk ni l p) (E C : Int) (hQ : pcQ R l = (E, C)) :
    Calls Tryd.prog 7 #[.agg #[.int .i8 ni, .slice (some ⟨b, 0, none⟩) l.length l.length, .slice (some ⟨k, 0, none⟩) p.length p.length]] w fun e w' => e = .returned (.tuple #[.int .i64 E, .int .i64 C]) ∧ Below w.heap.size w w' := by
  have ka : Below w.heap.size w (w.alloc (.cells #[.int .i8 ni, .slice (some ⟨b, 0, none⟩) l.length l.length, .slice (some ⟨k, 0, none⟩) p.length p.length] 32)) := by repeat (first | with_reducible exact Below.refl _ _ | (with_reducible refine kSet ?_ ?hB _; case hB => (simp; try omega)) | with_reducible refine kAlloc ?_ _ | with_reducible refine Below.drew ?_ | with_reducible refine kDrewN ?_ _ | with_reducible refine kTrans ?_ (by assumption))
  have hx := specCountNodes_any b k l.length p.length ni l p _ rfl rfl (h.below ka) h8 h9 bw m0 m1 R hR
  cases R with
  | false =>
    obtain ⟨rfl, rfl⟩ := pair_PP (show ((0 : Int), (1 : Int)) = (E, C) from hQ)
    simp only [Bool.false_eq_true, if_false, fourV, cntN] at hx
    have HV := Lib.hid hx
    clear h h8 h9 hR hQ hx
    go_enter Tryd.func7, Tryd.ntmps7
    go_wp2_with fail
    refine HV.out.mono ?_
    rintro e w1 ⟨rfl, hb1⟩
    have T1 := kTrans ka hb1
    clear HV hb1
    go_wp2
    exact bodyPost_ret (v := .tuple #[.int .i64 0, .int .i64 1]) (by simp [results, Tryd.results7, go_sem]) rfl ⟨rfl, by repeat (first | with_reducible exact Below.refl _ _ | (with_reducible refine kSet ?_ ?hB _; case hB => (simp; try omega)) | with_reducible refine kAlloc ?_ _ | with_reducible refine Below.drew ?_ | with_reducible refine kDrewN ?_ _ | with_reducible refine kTrans ?_ (by assumption))⟩
  | true =>
    obtain ⟨hE, rfl⟩ := pair_PP (show (pcN l, (0 : Int)) = (E, C) from hQ)
    have h1 := cntN_le 1 l
    have h2 := cntN_le 2 l
    have h3 := cntN_le 3 l
    unfold pcN at hE
    simp only [if_true, fourV] at hx
    generalize cntN 0 l = z0 at hx
    generalize cntN 1 l = z1 at hx hE h1
    generalize cntN 2 l = z2 at hx hE h2
    generalize cntN 3 l = z3 at hx hE h3
    have b1 : 0 ≤ z1 ∧ z1 ≤ 1048576 := by omega
    have b2 : 0 ≤ z2 ∧ z2 ≤ 1048576 := by omega
    have b3 : 0 ≤ z3 ∧ z3 ≤ 1048576 := by omega
    have HV := Lib.hid hx
    have HE := Lib.hid hE
    clear h h8 h9 hR hQ hx h1 h2 h3 hE
    go_enter Tryd.func7, Tryd.ntmps7
    go_wp2_with fail
    refine HV.out.mono ?_
    rintro e w1 ⟨rfl, hb1⟩
    have T1 := kTrans ka hb1
    clear HV hb1
    go_wp2
    exact bodyPost_ret (v := .tuple #[.int .i64 (z1 + 3 * z2 + 5 * z3), .int .i64 0]) (by simp [results, Tryd.results7, go_sem]) rfl ⟨by rw [HE.out], by repeat (first | with_reducible exact Below.refl _ _ | (with_reducible refine kSet ?_ ?hB _; case hB => (simp; try omega)) | with_reducible refine kAlloc ?_ _ | with_reducible refine Below.drew ?_ | with_reducible refine kDrewN ?_ _ | with_reducible refine kTrans ?_ (by assumption))⟩
set_option maxRecDepth 100000 in
set_option maxHeartbeats 4000000 in
theorem implPiecesOf_any (b k : Nat) (ni : Int) (l : List Nd) (p : List Int) (w : World) (h : NK w b k l p) (h8 : NdsWf l) (h9 : ShsWf p) (bw : i8 ni) (m0 : l.length ≤ 1048576) (m1 : p.length ≤ 1048576) (R : Bool) (hR : R = netOk ni l p) (E C : Int) (hQ : pcQ R l = (E, C)) (hst : StayAt w) :
    Calls Tryd.prog 9 #[.agg #[.int .i8 ni, .slice (some ⟨b, 0, none⟩) l.length l.length, .slice (some ⟨k, 0, none⟩) p.length p.length]] w fun e w' => e = .returned (.tuple #[.int .i64 E, .int .i64 C]) ∧ Below w.heap.size w w' := by
  obtain ⟨W, hW⟩ : ∃ W, w.alloc (.cells #[.int .i8 ni, .slice (some ⟨b, 0, none⟩) l.length l.length, .slice (some ⟨k, 0, none⟩) p.length p.length] 32) = W := ⟨_, rfl⟩
  have ka : Below w.heap.size w W := by rw [← hW]; exact kAlloc (Below.refl _ _) _
  have bx := NwAt.box w ni (.slice (some ⟨b, 0, none⟩) l.length l.length) (.slice (some ⟨k, 0, none⟩) p.length p.length) 32
  rw [hW] at bx
  have HV := Lib.hid (implValidNetwork_any b k ni l p W (h.below ka) h8 h9 bw m0 m1 R hR)
  have lb := bx.lt
  have HX := Lib.hid (fun W2 (h2 : Below W.heap.size W W2) => bx.below h2 lb)
  have HK := Lib.hid (fun W2 (h2 : Below W.heap.size W W2) => h.below (kTrans ka h2))
  have HS := Lib.hid (fun W2 (h2 : Below W.heap.size W W2) => (hst.below ka).below h2)
  have HW := Lib.hid hW
  obtain ⟨x0, x1, x2⟩ := bx
  cases R with
  | false =>
    obtain ⟨rfl, rfl⟩ := pair_PP (show ((0 : Int), (1 : Int)) = (E, C) from hQ)
    clear h h8 h9 hR hQ hW hst
    go_enter Tryd.func9, Tryd.ntmps9
    go_upto_region 1 with fail
    try rw [HW.out]
    go_wp2_with fail
    refine HV.out.mono ?_
    rintro e w1 ⟨rfl, hb1⟩
    have T1 := kTrans ka hb1
    clear HV x0 x1 x2
    go_wp2
    exact bodyPost_ret (v := .tuple #[.int .i64 0, .int .i64 1]) (by simp [results, Tryd.results9, go_sem]) rfl ⟨rfl, T1⟩
  | true =>
    obtain ⟨hE, rfl⟩ := pair_PP (show (pcN l, (0 : Int)) = (E, C) from hQ)
    have hp := netOk_parts hR.symm
    have hok := Lib.hid (netOk_kinds hR.symm)
    obtain ⟨n, hn⟩ : ∃ n, l.length = n := ⟨_, rfl⟩
    have n80 : n ≤ 80 := by omega
    have Hn := Lib.hid hn
    have HE := Lib.hid hE
    have HP0 : Hid (pcN (l.take 0) = 0) := Lib.hid (by simp [pcN, cntN])
    rw [hn] at hW x1 HV
    rw [hn]
    have HW := Lib.hid hW
    clear h h8 h9 hR hQ hW hst hp hE hn
    go_enter Tryd.func9, Tryd.ntmps9
    go_upto_region 1 with fail
    try rw [HW.out]
    go_wp2_with fail
    refine HV.out.mono ?_
    rintro e w1 ⟨rfl, hb1⟩
    clear HV x0 x1 x2
    obtain ⟨x0, x1, x2⟩ := HX.out w1 hb1
    rw [Hn.out] at x1
    go_wp2
    go_loopw [4, 6, 13] (fun s nd i wr => ∃ (j : Nat) (S : Int), j ≤ n ∧ i = .int .i64 j ∧ s = .int .i64 S ∧ Hid (pcN (l.take j) = S) ∧ Below W.heap.size W wr) (fun _ _ i _ => n - (intOf i).toNat)
    case atStart => exact ⟨0, 0, by omega, rfl, rfl, HP0, hb1⟩
    case round =>
      clear HP0 x0 x1 x2 hb1
      obtain ⟨j, S, hj, rfl, rfl, hf, hbr⟩ := hrel
      by_cases hlt : j < n
      · have hlk : j < l.length := by rw [Hn.out]; exact hlt
        have hpa := (HK.out wr hbr).p0 j hlk
        have hlz := (HK.out wr hbr).z0
        have hpk := hok.out _ (List.getElem_mem hlk)
        have htk : l.take (j + 1) = l.take j ++ [l[j]] := List.take_succ_eq_append_getElem hlk
        have hsb := pcN_le (l.take j)
        have hll : (l.take j).length ≤ 80 := by rw [List.length_take]; omega
        rw [hf.out] at hsb
        have hSb : 0 ≤ S ∧ S ≤ 720 := by omega
        obtain ⟨⟨s0, s1, s2, s3⟩, st0⟩ := HS.out wr hbr
        generalize l[j] = x at hpa hpk htk
        have Htk := Lib.hid htk
        obtain ⟨a0, a1, a2⟩ := hpa
        simp only [Nat.zero_add] at a0 a1 a2
        have hkk : x.kind = 0 ∨ x.kind = 1 ∨ x.kind = 2 ∨ x.kind = 3 := by omega
        clear hpk hsb hll htk
        rcases hkk with e | e | e | e
        · have HS2 : Hid (pcN (l.take (j + 1)) = S) := Lib.hid (by rw [Htk.out, pcN_0 _ _ e, hf.out])
          rw [e] at a0
          clear hf Htk e
          go_wp2
          exact ⟨⟨j + 1, _, by omega, by go_num, rfl, HS2, by repeat (first | with_reducible exact Below.refl _ _ | (with_reducible refine kSet ?_ ?hB _; case hB => (simp; try omega)) | with_reducible refine kAlloc ?_ _ | with_reducible refine Below.drew ?_ | with_reducible refine kDrewN ?_ _ | with_reducible refine kTrans ?_ (by assumption))⟩, by simp [intOf]; omega⟩
        · have HS2 : Hid (pcN (l.take (j + 1)) = S + 1) := Lib.hid (by rw [Htk.out, pcN_1 _ _ e, hf.out])
          rw [e] at a0
          clear hf Htk e
          go_wp2
          exact ⟨⟨j + 1, _, by omega, by go_num, rfl, HS2, by repeat (first | with_reducible exact Below.refl _ _ | (with_reducible refine kSet ?_ ?hB _; case hB => (simp; try omega)) | with_reducible refine kAlloc ?_ _ | with_reducible refine Below.drew ?_ | with_reducible refine kDrewN ?_ _ | with_reducible refine kTrans ?_ (by assumption))⟩, by simp [intOf]; omega⟩
        · have HS2 : Hid (pcN (l.take (j + 1)) = S + 3) := Lib.hid (by rw [Htk.out, pcN_2 _ _ e, hf.out])
          rw [e] at a0
          clear hf Htk e
          go_wp2
          exact ⟨⟨j + 1, _, by omega, by go_num, rfl, HS2, by repeat (first | with_reducible exact Below.refl _ _ | (with_reducible refine kSet ?_ ?hB _; case hB => (simp; try omega)) | with_reducible refine kAlloc ?_ _ | with_reducible refine Below.drew ?_ | with_reducible refine kDrewN ?_ _ | with_reducible refine kTrans ?_ (by assumption))⟩, by simp [intOf]; omega⟩
        · have HS2 : Hid (pcN (l.take (j + 1)) = S + 5) := Lib.hid (by rw [Htk.out, pcN_3 _ _ e, hf.out])
          rw [e] at a0
          clear hf Htk e
          go_wp2
          exact ⟨⟨j + 1, _, by omega, by go_num, rfl, HS2, by repeat (first | with_reducible exact Below.refl _ _ | (with_reducible refine kSet ?_ ?hB _; case hB => (simp; try omega)) | with_reducible refine kAlloc ?_ _ | with_reducible refine Below.drew ?_ | with_reducible refine kDrewN ?_ _ | with_reducible refine kTrans ?_ (by assumption))⟩, by simp [intOf]; omega⟩
      · obtain rfl : j = n := by omega
        obtain rfl : S = E := by rw [← hf.out, List.take_of_length_le (by rw [Hn.out]; exact Nat.le_refl _), HE.out]
        have Tr := kTrans ka hbr
        clear hf
        go_wp2
        exact bodyPost_ret (v := .tuple #[.int .i64 S, .int .i64 0]) (by simp [results, Tryd.results9, go_sem]) rfl ⟨rfl, Tr⟩
end Go.Proofs.YtlbnhdnmcnfgdaaDoor
