/- DepthOf, the program. -/
import Derived.Test.YtebicgfoaefabaaDoorDpB
namespace Go.Proofs.YtebicgfoaefabaaDoor
open Go.ChangeShapes Go.WideShapes Go.ChangeAt Go.RowKit Go.Joins Go.Deep
set_option linter.unusedVariables false
set_option linter.unusedSimpArgs false

def DpAt (w : World) : Prop := (w.cell? ⟨0, 0, none⟩ = some (.int .i64 0) ∧ w.cell? ⟨0, 1, none⟩ = some (.int .i64 1) ∧ w.cell? ⟨0, 2, none⟩ = some (.int .i64 2) ∧ w.cell? ⟨0, 3, none⟩ = some (.int .i64 3)) ∧ 0 < w.heap.size
theorem DpAt.below {w w' : World} (h : DpAt w) (b : Below w.heap.size w w') : DpAt w' :=
  ⟨⟨(b.cell (p := ⟨0, 0, none⟩) h.2).trans h.1.1, (b.cell (p := ⟨0, 1, none⟩) h.2).trans h.1.2.1, (b.cell (p := ⟨0, 2, none⟩) h.2).trans h.1.2.2.1, (b.cell (p := ⟨0, 3, none⟩) h.2).trans h.1.2.2.2⟩, Nat.lt_of_lt_of_le h.2 b.size⟩
def dpQ (R : Bool) (l : List Nd) (p : List Int) : Int × Int := if R = true then (mxL (pickI (depsL l []) p) 0, 0) else (0, 1)
theorem pair_DP {a c b d : Int} (h : (a, b) = (c, d)) : a = c ∧ b = d := by injection h with h1 h2; exact ⟨h1, h2⟩
theorem slIn_some {w : World} {T : List Int} {va : Option Addr} {vc N : Nat} (h : SlIn w T (.slice va N vc)) (h0 : 0 < T.length) : ∃ g o, va = some ⟨g, o, none⟩ ∧ InsAt w g o T ∧ g < w.heap.size ∧ T.length ≤ vc ∧ N = T.length := by
  generalize hv : Value.slice va N vc = v at h
  cases h with
  | empty _ _ h => rw [h] at h0; simp at h0
  | mk g o c h1 h2 h3 => cases hv; exact ⟨_, _, rfl, h1, h2, h3, rfl⟩
theorem nilI_ownsD {w : World} {base : Nat} {e : TypeId} : w.ownsRow base e 1 (.slice none 0 0) 0 (flatIn []) := ⟨by simp [flatIn], .inl ⟨rfl, rfl⟩⟩
theorem mxL_zero {L : List Int} (h : 0 < L.length) (h0 : 0 ≤ L.getD 0 0) : mxL L 0 = mxL (L.drop 1) (L.getD 0 0) := by
  cases L with
  | nil => simp at h
  | cons x l =>
    have hx : 0 ≤ x := by simpa using h0
    simp only [mxL, List.drop_succ_cons, List.drop_zero, List.getD_cons_zero]
    rw [show max 0 x = x by omega]
set_option maxRecDepth 100000 in
set_option maxHeartbeats 8000000 in
theorem implDepthOf_any (b k : Nat) (ni : Int) (l : List Nd) (p : List Int) (w : World) (h : NK w b k l p) (h8 : NdsWf l) (h9 : ShsWf p) (bw : i8 ni) (m0 : l.length ≤ 1048576) (m1 : p.length ≤ 1048576) (R : Bool) (hR : R = netOk ni l p) (E C : Int) (hQ : dpQ R l p = (E, C)) (hst : DpAt w) :
    Calls Tryd.prog 11 #[.agg #[.int .i8 ni, .slice (some ⟨b, 0, none⟩) l.length l.length, .slice (some ⟨k, 0, none⟩) p.length p.length]] w fun e w' => e = .returned (.tuple #[.int .i64 E, .int .i64 C]) ∧ Below w.heap.size w w' := by
  obtain ⟨W, hW⟩ : ∃ W, w.alloc (.cells #[.int .i8 ni, .slice (some ⟨b, 0, none⟩) l.length l.length, .slice (some ⟨k, 0, none⟩) p.length p.length] 32) = W := ⟨_, rfl⟩
  have ka : Below w.heap.size w W := by rw [← hW]; exact kAlloc (Below.refl _ _) _
  have bx := NwAt.box w ni (.slice (some ⟨b, 0, none⟩) l.length l.length) (.slice (some ⟨k, 0, none⟩) p.length p.length) 32
  rw [hW] at bx
  have HV := Lib.hid (implValidNetwork_any b k ni l p W (h.below ka) h8 h9 bw m0 m1 R hR)
  have lb := bx.lt
  have HX := Lib.hid (fun W2 (h2 : Below W.heap.size W W2) => bx.below h2 lb)
  have HK := Lib.hid (fun W2 (h2 : Below W.heap.size W W2) => h.below (kTrans ka h2))
  have HS := Lib.hid (fun W2 (h2 : Below W.heap.size W W2) => (hst.below ka).below h2)
  have HW := Lib.hid hW
  obtain ⟨x0, x1, x2⟩ := bx
  cases R with
  | false =>
    obtain ⟨rfl, rfl⟩ := pair_DP (show ((0 : Int), (1 : Int)) = (E, C) from hQ)
    clear h h8 h9 hR hQ hW hst
    go_enter Tryd.func11, Tryd.ntmps11
    go_upto_region 1 with fail
    try rw [HW.out]
    go_wp2_with fail
    refine HV.out.mono ?_
    rintro e w1 ⟨rfl, hb1⟩
    have T1 := kTrans ka hb1
    clear HV x0 x1 x2
    go_wp2
    exact bodyPost_ret (v := .tuple #[.int .i64 0, .int .i64 1]) (by simp [results, Tryd.results11, go_sem]) rfl ⟨rfl, T1⟩
  | true =>
    obtain ⟨hE, rfl⟩ := pair_DP (show (mxL (pickI (depsL l []) p) 0, (0 : Int)) = (E, C) from hQ)
    have hp := netOk_parts hR.symm
    have HN := Lib.hid (fun i (hi : i < l.length) => netOk_node hR.symm i hi)
    have HR := Lib.hid (outsOkN_all hp.2.2.2.2)
    obtain ⟨N, hN⟩ : ∃ N, l.length = N := ⟨_, rfl⟩
    obtain ⟨q, hq⟩ : ∃ q, p.length = q := ⟨_, rfl⟩
    have nn1 : 1 ≤ N := by omega
    have n80 : N ≤ 80 := by omega
    have q8 : 1 ≤ q ∧ q ≤ 8 := by omega
    have Hn := Lib.hid hN
    have Hq := Lib.hid hq
    obtain ⟨D, hD⟩ : ∃ D, depsL l [] = D := ⟨_, rfl⟩
    rw [hD] at hE
    have HE := Lib.hid hE
    have HD0 : Hid (depsL (l.drop 0) [] = D) := Lib.hid hD
    have HF0 : Hid (Fine []) := Lib.hid (fun d hd => by simp at hd)
    rw [hN] at HR
    rw [hN, hq] at hW HV HX
    rw [hN] at x1
    rw [hq] at x2
    rw [hN, hq]
    have HW := Lib.hid hW
    clear h h8 h9 hR hQ hW hst hp hE hN hq hD
    go_enter Tryd.func11, Tryd.ntmps11
    go_upto_region 1 with fail
    try rw [HW.out]
    go_wp2_with fail
    refine HV.out.mono ?_
    rintro e w1 ⟨rfl, hb1⟩
    clear HV x0 x1 x2
    obtain ⟨x0, x1, x2⟩ := HX.out w1 hb1
    have W0 : Hid ((w1.alloc (.cells #[.slice none 0 0] 58)).heap[w1.heap.size]? = some (.cells #[.slice none 0 0] 58 (0, 0))) := Lib.hid (heap_alloc_new _ _)
    have own0 : Hid ((w1.alloc (.cells #[.slice none 0 0] 58)).ownsRow (w1.heap.size + 1) 2 1 (.slice none 0 0) ([] : List Int).length (flatIn [])) := Lib.hid nilI_ownsD
    have kb0 : Below W.heap.size W (w1.alloc (.cells #[.slice none 0 0] 58)) := kAlloc hb1 _
    have hPW : W.heap.size ≤ w1.heap.size := hb1.size
    have hs0 : w1.heap.size + 1 ≤ (w1.alloc (.cells #[.slice none 0 0] 58)).heap.size := by simp
    have lw : w.heap.size < w1.heap.size := Nat.lt_of_lt_of_le lb hb1.size
    go_wp2
    go_loopw [6, 7, 14] (fun _ _ i wr => ∃ (j : Nat) (acc : List Int) (v : Value), j ≤ N ∧ i = .int .i64 j ∧ acc.length = j ∧ Hid (depsL (l.drop j) acc = D) ∧ Hid (Fine acc) ∧ Hid (wr.heap[w1.heap.size]? = some (.cells #[v] 58 (0, 0))) ∧ Hid (wr.ownsRow (w1.heap.size + 1) 2 1 v acc.length (flatIn acc)) ∧ w1.heap.size + 1 ≤ wr.heap.size ∧ Below W.heap.size W wr) (fun _ _ i _ => N - (intOf i).toNat)
    case atStart => exact ⟨0, [], _, by omega, rfl, rfl, HD0, HF0, W0, own0, hs0, kb0⟩
    case round =>
      clear HD0 HF0 W0 own0 hs0 kb0 x0 x1 x2
      obtain ⟨j, acc, v, hj, rfl, hacc, hf, hfi, hS, hown, hsz, hbr⟩ := hrel
      obtain ⟨va, vc, rfl⟩ := owns_slice hown.out
      have s0 : wr.cell? ⟨w1.heap.size, 0, none⟩ = some (.slice va acc.length vc) := cell_of_row _ _ 0 _ _ _ hS.out
      rw [hacc] at s0
      have ls := blk_lt hS.out
      by_cases hlt : j < N
      · have hlk : j < l.length := by rw [Hn.out]; exact hlt
        have hpa := (HK.out wr hbr).p0 j hlk
        have hlz := (HK.out wr hbr).z0
        have hd : l.drop j = l[j] :: l.drop (j + 1) := List.drop_eq_getElem_cons hlk
        have hno := nodeOk_cases (HN.out j hlk)
        obtain ⟨⟨d0, d1, d2, d3⟩, dt⟩ := HS.out wr hbr
        generalize l[j] = x at hpa hd hno
        obtain ⟨kd, xa, xb⟩ := x
        obtain ⟨a0, a1, a2⟩ := hpa
        simp only [Nat.zero_add] at a0 a1 a2 hno
        have hq2 := hf.out
        rw [hd] at hq2
        have hF : Hid (depsL (l.drop (j + 1)) (acc ++ [depN ⟨kd, xa, xb⟩ acc]) = D) := Lib.hid hq2
        have hfi2 : Hid (Fine (acc ++ [depN ⟨kd, xa, xb⟩ acc])) := Lib.hid (hfi.out.snoc (by simp only; omega))
        have Hacc := Lib.hid hacc
        have kin : Below wr.heap.size wr (wr.alloc (.cells #[.int .i8 kd, .int .i16 xa, .int .i16 xb] 56)) := kAlloc (Below.refl _ _) _
        clear hq2 hd hf hacc
        rcases hno with ⟨rfl, hxa, rfl⟩ | ⟨rfl, rfl, rfl⟩ | ⟨e | e, hxa, hxb⟩
        · have e0 : (0 : Int) = 0 := rfl
          have hd0 : depN ⟨0, xa, 0⟩ acc = 0 := by simp [depN]
          rw [hd0] at hF hfi2
          clear hd0
          go_wp2_with fail
          refine (isGate_any ⟨0, xa, 0⟩ _ false (by simp)).mono ?_
          rintro e w2 ⟨rfl, hb2⟩
          have T2 := kTrans kin hb2
          have hS2 := blk_below hS.out T2
          have hown2 := owns_below hown.out T2
          have hs2 := T2.size
          have HP := Lib.hid (putI_any (w1.heap.size) (w1.heap.size + 1) _ acc (0) w2 hS2 hown2 (by omega) (by omega) (by rw [Hacc.out]; omega))
          have T2w := kTrans hbr T2
          clear s0 a0 a1 a2 hS2 hown2 hS hown hb2 T2 kin hbr
          go_wp2_with fail
          refine HP.out.mono ?_
          rintro e w3 ⟨rfl, ⟨v', hS3, hown3⟩, hb3⟩
          have hs3 := hb3.size
          have T3 : Below W.heap.size W w3 := T2w.trans (hb3.mono (by omega))
          have HS3 := Lib.hid hS3
          have HO3 := Lib.hid hown3
          have ha3 : (acc ++ [0]).length = j + 1 := by rw [List.length_append, Hacc.out]; rfl
          clear hS3 hown3 HP hb3
          go_wp2
          exact ⟨⟨j + 1, _, _, by omega, by go_num, ha3, hF, hfi2, HS3, HO3, by omega, T3⟩, by simp [intOf]; omega⟩
        · have e0 : (0 : Int) = 0 := rfl
          have hd0 : depN ⟨1, 0, 0⟩ acc = 1 := by simp [depN]
          rw [hd0] at hF hfi2
          clear hd0
          go_wp2_with fail
          refine (isGate_any ⟨1, 0, 0⟩ _ false (by simp)).mono ?_
          rintro e w2 ⟨rfl, hb2⟩
          have T2 := kTrans kin hb2
          have hS2 := blk_below hS.out T2
          have hown2 := owns_below hown.out T2
          have hs2 := T2.size
          have HP := Lib.hid (putI_any (w1.heap.size) (w1.heap.size + 1) _ acc (1) w2 hS2 hown2 (by omega) (by omega) (by rw [Hacc.out]; omega))
          have T2w := kTrans hbr T2
          clear s0 a0 a1 a2 hS2 hown2 hS hown hb2 T2 kin hbr
          go_wp2_with fail
          refine HP.out.mono ?_
          rintro e w3 ⟨rfl, ⟨v', hS3, hown3⟩, hb3⟩
          have hs3 := hb3.size
          have T3 : Below W.heap.size W w3 := T2w.trans (hb3.mono (by omega))
          have HS3 := Lib.hid hS3
          have HO3 := Lib.hid hown3
          have ha3 : (acc ++ [1]).length = j + 1 := by rw [List.length_append, Hacc.out]; rfl
          clear hS3 hown3 HP hb3
          go_wp2
          exact ⟨⟨j + 1, _, _, by omega, by go_num, ha3, hF, hfi2, HS3, HO3, by omega, T3⟩, by simp [intOf]; omega⟩
        · subst e
          obtain ⟨kx, rfl⟩ : ∃ kx : Nat, xa = kx := ⟨xa.toNat, by omega⟩
          obtain ⟨ky, rfl⟩ : ∃ ky : Nat, xb = ky := ⟨xb.toNat, by omega⟩
          have hkx : kx < j := by omega
          have hky : ky < j := by omega
          have hkxl : kx < acc.length := by rw [Hacc.out]; exact hkx
          have hkyl : ky < acc.length := by rw [Hacc.out]; exact hky
          have dE : depN ⟨2, kx, ky⟩ acc = 2 + max (acc.getD kx 0) (acc.getD ky 0) := by simp [depN]
          have hda := hfi.out.getD kx
          have hdb := hfi.out.getD ky
          rw [getD_atI (by rw [Hacc.out]; exact hkx)] at hda dE
          rw [getD_atI (by rw [Hacc.out]; exact hky)] at hdb dE
          obtain ⟨g, o, rfl, eC, eG, eL, _⟩ := slIn_some (SlWIn.of_owns hown.out).sl (by rw [Hacc.out]; omega)
          rw [Hacc.out] at eL
          have HC := Lib.hid eC
          generalize depN ⟨2, kx, ky⟩ acc = t at dE hF hfi2
          clear eC hfi
          go_wp2_with fail
          refine (isGate_any ⟨2, kx, ky⟩ _ true (by simp)).mono ?_
          rintro e w2 ⟨rfl, hb2⟩
          have kk2 := kTrans kin hb2
          have cx := (HC.out.below kk2 eG) kx (by rw [Hacc.out]; exact hkx)
          have cy := (HC.out.below kk2 eG) ky (by rw [Hacc.out]; exact hky)
          generalize acc[kx] = da at hda dE cx
          generalize acc[ky] = db at hdb dE cy
          clear hkxl hkyl
          have hda2 : 0 ≤ da ∧ da ≤ 240 := by have := Hacc.out; omega
          have hdb2 : 0 ≤ db ∧ db ≤ 240 := by have := Hacc.out; omega
          clear hda hdb
          have bN := blk_below (heap_alloc_new wr (.cells #[.int .i8 2, .int .i16 (kx : Int), .int .i16 (ky : Int)] 56)) hb2
          have n1 : w2.cell? ⟨wr.heap.size, 1, none⟩ = some (.int .i16 (kx : Int)) := cell_of_row _ _ 1 _ _ _ bN
          have n2 : w2.cell? ⟨wr.heap.size, 2, none⟩ = some (.int .i16 (ky : Int)) := cell_of_row _ _ 2 _ _ _ bN
          have p0 : w2.cell? ⟨w1.heap.size, 0, none⟩ = some (.slice (some ⟨g, o, none⟩) acc.length vc) := cell_of_row _ _ 0 _ _ _ (blk_below hS.out kk2)
          rw [Hacc.out] at p0
          have eG2 := Nat.lt_of_lt_of_le eG kk2.size
          have lN := blk_lt bN
          have lP := blk_lt (blk_below hS.out kk2)
          have hw : IntKind.i64.wrap (2 + max da db) = 2 + max da db := IntWalk.i64_in _ (by omega)
          clear bN kk2
          by_cases hle : db ≤ da
          · have et : t = 2 + da := by omega
            have em : max da db = da := by omega
            clear dE
            subst et
            rw [em] at hw
            go_wp2_with fail
            go_quiet (fail)
            skip
            go_wp2_with fail
            have T2 := kDrewN (kTrans kin hb2) nq
            have hS2 := blk_below hS.out T2
            have hown2 := owns_below hown.out T2
            have hs2 := T2.size
            have HP := Lib.hid (putI_any (w1.heap.size) (w1.heap.size + 1) _ acc (2 + da) (w2.drewN nq) hS2 hown2 (by omega) (by omega) (by rw [Hacc.out]; omega))
            have T2w := kTrans hbr T2
            clear cx cy n1 n2 p0
            clear s0 a0 a1 a2 hS2 hown2 hS hown hb2 T2 kin hbr
            refine HP.out.mono ?_
            rintro e w3 ⟨rfl, ⟨v', hS3, hown3⟩, hb3⟩
            have hs3 := hb3.size
            have T3 : Below W.heap.size W w3 := T2w.trans (hb3.mono (by omega))
            have HS3 := Lib.hid hS3
            have HO3 := Lib.hid hown3
            have ha3 : (acc ++ [2 + da]).length = j + 1 := by rw [List.length_append, Hacc.out]; rfl
            clear hS3 hown3 HP hb3
            go_wp2
            exact ⟨⟨j + 1, _, _, by omega, by go_num, ha3, hF, hfi2, HS3, HO3, by omega, T3⟩, by simp [intOf]; omega⟩
          · have et : t = 2 + db := by omega
            have em : max da db = db := by omega
            clear dE
            subst et
            rw [em] at hw
            go_wp2_with fail
            go_quiet (fail)
            skip
            go_wp2_with fail
            have T2 := kDrewN (kTrans kin hb2) nq
            have hS2 := blk_below hS.out T2
            have hown2 := owns_below hown.out T2
            have hs2 := T2.size
            have HP := Lib.hid (putI_any (w1.heap.size) (w1.heap.size + 1) _ acc (2 + db) (w2.drewN nq) hS2 hown2 (by omega) (by omega) (by rw [Hacc.out]; omega))
            have T2w := kTrans hbr T2
            clear cx cy n1 n2 p0
            clear s0 a0 a1 a2 hS2 hown2 hS hown hb2 T2 kin hbr
            refine HP.out.mono ?_
            rintro e w3 ⟨rfl, ⟨v', hS3, hown3⟩, hb3⟩
            have hs3 := hb3.size
            have T3 : Below W.heap.size W w3 := T2w.trans (hb3.mono (by omega))
            have HS3 := Lib.hid hS3
            have HO3 := Lib.hid hown3
            have ha3 : (acc ++ [2 + db]).length = j + 1 := by rw [List.length_append, Hacc.out]; rfl
            clear hS3 hown3 HP hb3
            go_wp2
            exact ⟨⟨j + 1, _, _, by omega, by go_num, ha3, hF, hfi2, HS3, HO3, by omega, T3⟩, by simp [intOf]; omega⟩
        · subst e
          obtain ⟨kx, rfl⟩ : ∃ kx : Nat, xa = kx := ⟨xa.toNat, by omega⟩
          obtain ⟨ky, rfl⟩ : ∃ ky : Nat, xb = ky := ⟨xb.toNat, by omega⟩
          have hkx : kx < j := by omega
          have hky : ky < j := by omega
          have hkxl : kx < acc.length := by rw [Hacc.out]; exact hkx
          have hkyl : ky < acc.length := by rw [Hacc.out]; exact hky
          have dE : depN ⟨3, kx, ky⟩ acc = 3 + max (acc.getD kx 0) (acc.getD ky 0) := by simp [depN]
          have hda := hfi.out.getD kx
          have hdb := hfi.out.getD ky
          rw [getD_atI (by rw [Hacc.out]; exact hkx)] at hda dE
          rw [getD_atI (by rw [Hacc.out]; exact hky)] at hdb dE
          obtain ⟨g, o, rfl, eC, eG, eL, _⟩ := slIn_some (SlWIn.of_owns hown.out).sl (by rw [Hacc.out]; omega)
          rw [Hacc.out] at eL
          have HC := Lib.hid eC
          generalize depN ⟨3, kx, ky⟩ acc = t at dE hF hfi2
          clear eC hfi
          go_wp2_with fail
          refine (isGate_any ⟨3, kx, ky⟩ _ true (by simp)).mono ?_
          rintro e w2 ⟨rfl, hb2⟩
          have kk2 := kTrans kin hb2
          have cx := (HC.out.below kk2 eG) kx (by rw [Hacc.out]; exact hkx)
          have cy := (HC.out.below kk2 eG) ky (by rw [Hacc.out]; exact hky)
          generalize acc[kx] = da at hda dE cx
          generalize acc[ky] = db at hdb dE cy
          clear hkxl hkyl
          have hda2 : 0 ≤ da ∧ da ≤ 240 := by have := Hacc.out; omega
          have hdb2 : 0 ≤ db ∧ db ≤ 240 := by have := Hacc.out; omega
          clear hda hdb
          have bN := blk_below (heap_alloc_new wr (.cells #[.int .i8 3, .int .i16 (kx : Int), .int .i16 (ky : Int)] 56)) hb2
          have n1 : w2.cell? ⟨wr.heap.size, 1, none⟩ = some (.int .i16 (kx : Int)) := cell_of_row _ _ 1 _ _ _ bN
          have n2 : w2.cell? ⟨wr.heap.size, 2, none⟩ = some (.int .i16 (ky : Int)) := cell_of_row _ _ 2 _ _ _ bN
          have p0 : w2.cell? ⟨w1.heap.size, 0, none⟩ = some (.slice (some ⟨g, o, none⟩) acc.length vc) := cell_of_row _ _ 0 _ _ _ (blk_below hS.out kk2)
          rw [Hacc.out] at p0
          have eG2 := Nat.lt_of_lt_of_le eG kk2.size
          have lN := blk_lt bN
          have lP := blk_lt (blk_below hS.out kk2)
          have hw : IntKind.i64.wrap (3 + max da db) = 3 + max da db := IntWalk.i64_in _ (by omega)
          clear bN kk2
          by_cases hle : db ≤ da
          · have et : t = 3 + da := by omega
            have em : max da db = da := by omega
            clear dE
            subst et
            rw [em] at hw
            go_wp2_with fail
            go_quiet (fail)
            skip
            go_wp2_with fail
            have T2 := kDrewN (kTrans kin hb2) nq
            have hS2 := blk_below hS.out T2
            have hown2 := owns_below hown.out T2
            have hs2 := T2.size
            have HP := Lib.hid (putI_any (w1.heap.size) (w1.heap.size + 1) _ acc (3 + da) (w2.drewN nq) hS2 hown2 (by omega) (by omega) (by rw [Hacc.out]; omega))
            have T2w := kTrans hbr T2
            clear cx cy n1 n2 p0
            clear s0 a0 a1 a2 hS2 hown2 hS hown hb2 T2 kin hbr
            refine HP.out.mono ?_
            rintro e w3 ⟨rfl, ⟨v', hS3, hown3⟩, hb3⟩
            have hs3 := hb3.size
            have T3 : Below W.heap.size W w3 := T2w.trans (hb3.mono (by omega))
            have HS3 := Lib.hid hS3
            have HO3 := Lib.hid hown3
            have ha3 : (acc ++ [3 + da]).length = j + 1 := by rw [List.length_append, Hacc.out]; rfl
            clear hS3 hown3 HP hb3
            go_wp2
            exact ⟨⟨j + 1, _, _, by omega, by go_num, ha3, hF, hfi2, HS3, HO3, by omega, T3⟩, by simp [intOf]; omega⟩
          · have et : t = 3 + db := by omega
            have em : max da db = db := by omega
            clear dE
            subst et
            rw [em] at hw
            go_wp2_with fail
            go_quiet (fail)
            skip
            go_wp2_with fail
            have T2 := kDrewN (kTrans kin hb2) nq
            have hS2 := blk_below hS.out T2
            have hown2 := owns_below hown.out T2
            have hs2 := T2.size
            have HP := Lib.hid (putI_any (w1.heap.size) (w1.heap.size + 1) _ acc (3 + db) (w2.drewN nq) hS2 hown2 (by omega) (by omega) (by rw [Hacc.out]; omega))
            have T2w := kTrans hbr T2
            clear cx cy n1 n2 p0
            clear s0 a0 a1 a2 hS2 hown2 hS hown hb2 T2 kin hbr
            refine HP.out.mono ?_
            rintro e w3 ⟨rfl, ⟨v', hS3, hown3⟩, hb3⟩
            have hs3 := hb3.size
            have T3 : Below W.heap.size W w3 := T2w.trans (hb3.mono (by omega))
            have HS3 := Lib.hid hS3
            have HO3 := Lib.hid hown3
            have ha3 : (acc ++ [3 + db]).length = j + 1 := by rw [List.length_append, Hacc.out]; rfl
            clear hS3 hown3 HP hb3
            go_wp2
            exact ⟨⟨j + 1, _, _, by omega, by go_num, ha3, hF, hfi2, HS3, HO3, by omega, T3⟩, by simp [intOf]; omega⟩
      · obtain rfl : j = N := by omega
        obtain rfl : acc = D := by rw [← hf.out, List.drop_of_length_le (by rw [Hn.out]; exact Nat.le_refl _)]; rfl
        have hac : 0 < acc.length := by rw [hacc]; omega
        obtain ⟨g, o, rfl, eC, eG, eL, _⟩ := slIn_some (SlWIn.of_owns hown.out).sl hac
        have hL0 : 0 < (pickI acc p).length := by rw [pickI_length, Hq.out]; omega
        have hp0 : 0 < p.length := by rw [Hq.out]; omega
        have hge : 0 ≤ (pickI acc p).getD 0 0 := by rw [getD_atI hL0, pickI_get _ _ 0 hL0 hp0]; exact (hfi.out.getD _).1
        obtain ⟨L, hL⟩ : ∃ L, pickI acc p = L := ⟨_, rfl⟩
        have hLl : L.length = q := by rw [← hL, pickI_length]; exact Hq.out
        have hE := HE.out
        rw [hL] at hge hL0 hE
        have hM : mxL (L.drop 1) (L.getD 0 0) = E := by rw [← mxL_zero hL0 hge]; exact hE
        rw [hacc] at eL
        have HI := Lib.hid (itemsI_any g o j vc k q acc p wr hacc eC eG eL (HK.out wr hbr).p1 (HK.out wr hbr).z1 Hq.out n80 q8.2 HR.out L hL)
        have HM := Lib.hid hM
        have HL := Lib.hid hLl
        have HT := Lib.hid (kTrans ka hbr)
        obtain ⟨x0, x1, x2⟩ := HX.out wr hbr
        clear hp0 hge hL0 hE hM hLl hL eC eG eL hf hfi hown hS
        go_wp2_with fail
        refine HI.out.mono ?_
        rintro e w2 ⟨v2, rfl, hs2, hb2⟩
        obtain ⟨va2, vc2, rfl⟩ := hs2.form
        obtain ⟨g2, o2, rfl, eC2, eG2, eL2, _⟩ := slIn_some hs2.sl (by rw [HL.out]; omega)
        rw [HL.out] at eL2 ⊢
        have HX2 := Lib.hid (maxS_any g2 o2 q vc2 L w2 HL.out q8.1 (by omega) eC2 eG2 eL2 E HM.out)
        have HT2 := Lib.hid (kTrans HT.out hb2)
        clear hs2 eC2 hb2 HI
        go_wp2_with fail
        refine HX2.out.mono ?_
        rintro e w3 ⟨rfl, rfl⟩
        go_wp2
        exact bodyPost_ret (v := .tuple #[.int .i64 E, .int .i64 0]) (by simp [results, Tryd.results11, go_sem]) rfl ⟨rfl, HT2.out⟩
end Go.Proofs.YtebicgfoaefabaaDoor
