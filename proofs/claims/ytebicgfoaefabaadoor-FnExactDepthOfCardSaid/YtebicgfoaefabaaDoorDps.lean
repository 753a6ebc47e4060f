/- DepthOf, the model. -/
import Derived.Test.YtebicgfoaefabaaDoorDpC
namespace Go.Proofs.YtebicgfoaefabaaDoor
open Go.ChangeShapes Go.WideShapes Go.ChangeAt Go.RowKit Go.Joins Go.Deep
set_option linter.unusedVariables false
set_option linter.unusedSimpArgs false

theorem mxL_drop {L : List Int} {j : Nat} (h : j < L.length) (m : Int) : mxL (L.drop j) m = mxL (L.drop (j + 1)) (max m L[j]) := by rw [List.drop_eq_getElem_cons h]; rfl
set_option maxRecDepth 100000 in
set_option maxHeartbeats 16000000 in
theorem specDepthOf_any (b k : Nat) (ni : Int) (l : List Nd) (p : List Int) (w : World) (h : NK w b k l p) (h8 : NdsWf l) (h9 : ShsWf p) (bw : i8 ni) (m0 : l.length ≤ 1048576) (m1 : p.length ≤ 1048576) (R : Bool) (hR : R = netOk ni l p) (E C : Int) (hQ : dpQ R l p = (E, C)) :
    Calls Tryd.prog 10 #[.agg #[.int .i8 ni, .slice (some ⟨b, 0, none⟩) l.length l.length, .slice (some ⟨k, 0, none⟩) p.length p.length]] w fun e w' => e = .returned (.tuple #[.int .i64 E, .int .i64 C]) ∧ Below w.heap.size w w' := by
  obtain ⟨W, hW⟩ : ∃ W, w.alloc (.cells #[.int .i8 ni, .slice (some ⟨b, 0, none⟩) l.length l.length, .slice (some ⟨k, 0, none⟩) p.length p.length] 32) = W := ⟨_, rfl⟩
  have ka : Below w.heap.size w W := by rw [← hW]; exact kAlloc (Below.refl _ _) _
  have bx := NwAt.box w ni (.slice (some ⟨b, 0, none⟩) l.length l.length) (.slice (some ⟨k, 0, none⟩) p.length p.length) 32
  rw [hW] at bx
  have HV := Lib.hid (l04Ok_any w.heap.size b k ni l p W bx (h.below ka) h8 h9 bw m0 m1 R hR)
  have lb := bx.lt
  have HX := Lib.hid (fun W2 (h2 : Below W.heap.size W W2) => bx.below h2 lb)
  have HK := Lib.hid (fun W2 (h2 : Below W.heap.size W W2) => h.below (kTrans ka h2))
  have HW := Lib.hid hW
  obtain ⟨x0, x1, x2⟩ := bx
  cases R with
  | false =>
    obtain ⟨rfl, rfl⟩ := pair_DP (show ((0 : Int), (1 : Int)) = (E, C) from hQ)
    clear h h8 h9 hR hQ hW
    go_enter Tryd.func10, Tryd.ntmps10
    go_upto_region 1 with fail
    try rw [HW.out]
    go_wp2_with fail
    refine HV.out.mono ?_
    rintro e w1 ⟨rfl, hb1⟩
    have T1 := kTrans ka hb1
    clear HV x0 x1 x2
    go_wp2
    exact bodyPost_ret (v := .tuple #[.int .i64 0, .int .i64 1]) (by simp [results, Tryd.results10, go_sem]) rfl ⟨rfl, T1⟩
  | true =>
    obtain ⟨hE, rfl⟩ := pair_DP (show (mxL (pickI (depsL l []) p) 0, (0 : Int)) = (E, C) from hQ)
    have hp := netOk_parts hR.symm
    have HN := Lib.hid (fun i (hi : i < l.length) => netOk_node hR.symm i hi)
    have HR := Lib.hid (outsOkN_all hp.2.2.2.2)
    obtain ⟨N, hN⟩ : ∃ N, l.length = N := ⟨_, rfl⟩
    obtain ⟨q, hq⟩ : ∃ q, p.length = q := ⟨_, rfl⟩
    have nn1 : 1 ≤ N := by omega
    have n80 : N ≤ 80 := by omega
    have q8 : 1 ≤ q ∧ q ≤ 8 := by omega
    have Hn := Lib.hid hN
    have Hq := Lib.hid hq
    obtain ⟨D, hD⟩ : ∃ D, depsL l [] = D := ⟨_, rfl⟩
    rw [hD] at hE
    have HE := Lib.hid hE
    have HD0 : Hid (depsL (l.drop 0) [] = D) := Lib.hid hD
    have HF0 : Hid (Fine []) := Lib.hid (fun d hd => by simp at hd)
    obtain ⟨i0, hi0, hz0, hzz1, hzz2⟩ := info_parts info_i64d
    have Hi := Lib.hid hi0
    have Hz0 := Lib.hid hz0
    have Hz1 := Lib.hid hzz1
    have Hz2 := Lib.hid hzz2
    rw [hN] at HR
    rw [hN, hq] at hW HX
    rw [hN] at x1
    rw [hq] at x2
    rw [hN, hq]
    have HW := Lib.hid hW
    clear h h8 h9 hR hQ hW hp hE hN hq hD hi0 hz0 hzz1 hzz2
    go_enter Tryd.func10, Tryd.ntmps10
    go_upto_region 1 with fail
    try rw [HW.out]
    go_wp2_with fail
    refine HV.out.mono ?_
    rintro e w1 ⟨rfl, hb1⟩
    clear HV x0 x1 x2 HW
    obtain ⟨x0, x1, x2⟩ := HX.out w1 hb1
    have hPW := Lib.hid hb1.size
    have lw : w.heap.size < w1.heap.size := Nat.lt_of_lt_of_le lb hb1.size
    have own0 : Hid ((w1.alloc (.cells #[] 2)).ownsRow w1.heap.size 2 1 (.slice (some ⟨w1.heap.size, 0, none⟩) 0 0) ([] : List Int).length (flatIn [])) := Lib.hid (owns_new (Nat.le_refl _) (heap_alloc_new _ _))
    have hk0 : Below w1.heap.size w1 (w1.alloc (.cells #[] 2)) := kAlloc (Below.refl _ _) _
    go_wp2
    clear x0 x1 x2
    go_loopw [4, 5, 6, 7] (fun out i _ _ wr => ∃ (j : Nat) (acc : List Int), j ≤ N ∧ i = .int .i64 j ∧ acc.length = j ∧ Hid (depsL (l.drop j) acc = D) ∧ Hid (Fine acc) ∧ Hid (wr.ownsRow w1.heap.size 2 1 out acc.length (flatIn acc)) ∧ Below w1.heap.size w1 wr) (fun _ i _ _ _ => N - (intOf i).toNat)
    case atStart => exact ⟨0, [], by omega, rfl, rfl, HD0, HF0, own0, hk0⟩
    case round =>
      clear HD0 HF0 own0 hk0
      obtain ⟨_, acc, hj, rfl, rfl, hf, hfi, hown, hbr⟩ := hrel
      have Hacc : Hid (acc.length = acc.length) := Lib.hid rfl
      obtain ⟨va, vc, rfl⟩ := owns_slice hown.out
      have hbw := kTrans hb1 hbr
      obtain ⟨x0, x1, x2⟩ := id (HX.out wr hbw)
      have hlb := Nat.lt_of_lt_of_le lb hbw.size
      by_cases hlt : acc.length < N
      · have hlk : acc.length < l.length := by rw [Hn.out]; exact hlt
        have hpa := (HK.out wr hbw).p0 acc.length hlk
        have hzb := (HK.out wr hbw).z0
        have hd : l.drop acc.length = l[acc.length] :: l.drop (acc.length + 1) := List.drop_eq_getElem_cons hlk
        have hno := HN.out acc.length hlk
        generalize l[acc.length] = x at hpa hd hno
        obtain ⟨xk, xa, xb⟩ := x
        obtain ⟨a0, a1, a2⟩ := hpa
        simp only [Nat.zero_add] at a0 a1 a2
        have hq2 := hf.out
        rw [hd] at hq2
        have hF : Hid (depsL (l.drop (acc.length + 1)) (acc ++ [depN ⟨xk, xa, xb⟩ acc]) = D) := Lib.hid hq2
        have hfi2 : Hid (Fine (acc ++ [depN ⟨xk, xa, xb⟩ acc])) := Lib.hid (hfi.out.snoc (by have := nodeOk_cases hno; simp only at this ⊢; omega))
        obtain ⟨W2', hW⟩ : ∃ W2', wr.alloc (.cells #[.int .i8 xk, .int .i16 xa, .int .i16 xb] 56) = W2' := ⟨_, rfl⟩
        have kW : Below wr.heap.size wr W2' := by rw [← hW]; exact kAlloc (Below.refl _ _) _
        have bN : W2'.heap[wr.heap.size]? = some (.cells #[.int .i8 xk, .int .i16 xa, .int .i16 xb] 56 (0, 0)) := by rw [← hW]; exact nNew _ _
        have n0 : W2'.cell? ⟨wr.heap.size, 0, none⟩ = some (.int .i8 xk) := cell_of_row _ _ 0 _ _ _ bN
        have n1 : W2'.cell? ⟨wr.heap.size, 1, none⟩ = some (.int .i16 xa) := cell_of_row _ _ 1 _ _ _ bN
        have n2 : W2'.cell? ⟨wr.heap.size, 2, none⟩ = some (.int .i16 xb) := cell_of_row _ _ 2 _ _ _ bN
        obtain ⟨y0, y1, y2⟩ := id (HX.out W2' (kTrans hbw kW))
        have HW := Lib.hid hW
        have hbW := kTrans hbr kW
        have hownW := Lib.hid (owns_below hown.out kW)
        have hzW := kW.size
        have lN := blk_lt bN
        rcases nodeOk_cases hno with ⟨k0, hA, hB⟩ | ⟨k1, hA, hB⟩ | ⟨k2, hA, hB⟩
        · simp only at k0 hA hB
          subst k0 hB
          have e : depN ⟨0, xa, 0⟩ acc = 0 := by simp [depN]
          rw [e] at hF hfi2
          clear e hq2 hd hf hfi hno hW bN kW hown
          go_upto_region 8 with fail
          try rw [HW.out]
          have T2w := hbW
          have hown2 := hownW
          have Hblk := Lib.hid (owns_block hown2.out)
          obtain ⟨W2, rfl⟩ : ∃ W2 : World, W2 = W2' := ⟨_, rfl⟩
          skip
          go_wp2_with (at_builtin; refine wpList_append_own _ rfl _ _ 53 rfl w1.heap.size 2 i0 _ 1 8 Tryd.underlying53 Hi.out Hz0.out Hz1.out Hz2.out rfl (by decide) (.slice va acc.length vc) acc.length (flatIn acc) rfl (owns_below hown2.out (by repeat (first | with_reducible exact Below.refl _ _ | (with_reducible refine kSet ?_ ?hB _; case hB => (simp; try omega)) | with_reducible refine kAlloc ?_ _ | with_reducible refine Below.drew ?_ | with_reducible refine kDrewN ?_ _ | with_reducible refine kTrans ?_ (by assumption)))) ⟨W2.heap.size, 0, none⟩ 1 1 [.int .i64 (0)] rfl rfl (World.news_of_block (cs := #[.int .i64 (0)]) (heap_alloc_new _ _)) (by simp [Value.oneCell']) ?qc4 ?qc5 ?qc6 ?_)
          case qc4 => have := Hacc.out; unfold maxLen; omega
          case qc5 => have := Hacc.out; omega
          case qc6 => have := T2w.size; have := hPW.out; simp; omega
          intro v6 w6 hown6 hgr hnil
          have Hown6 := Lib.hid (show w6.ownsRow w1.heap.size 2 1 v6 (acc ++ [(0)]).length (flatIn (acc ++ [(0)])) by rw [flatIn_end, List.length_append]; exact hown6)
          have T6 : Below w1.heap.size w1 w6 := grown_below (v := (.slice va acc.length vc)) (by repeat (first | with_reducible exact Below.refl _ _ | (with_reducible refine kSet ?_ ?hB _; case hB => (simp; try omega)) | with_reducible refine kAlloc ?_ _ | with_reducible refine Below.drew ?_ | with_reducible refine kDrewN ?_ _ | with_reducible refine kTrans ?_ (by assumption))) hgr (by intro q hq; exact (Hblk.out q hq).1)
          have ha6 : (acc ++ [(0)]).length = acc.length + 1 := by rw [List.length_append]; rfl
          clear hown6 hgr hnil
          go_wp2
          exact ⟨⟨acc.length + 1, _, by omega, by go_num, ha6, hF, hfi2, Hown6, T6⟩, by simp [intOf]; omega⟩
        · simp only at k1 hA hB
          subst k1 hA hB
          have e : depN ⟨1, 0, 0⟩ acc = 1 := by simp [depN]
          rw [e] at hF hfi2
          clear e hq2 hd hf hfi hno hW bN kW hown
          go_upto_region 8 with fail
          try rw [HW.out]
          have T2w := hbW
          have hown2 := hownW
          have Hblk := Lib.hid (owns_block hown2.out)
          obtain ⟨W2, rfl⟩ : ∃ W2 : World, W2 = W2' := ⟨_, rfl⟩
          skip
          go_wp2_with (at_builtin; refine wpList_append_own _ rfl _ _ 53 rfl w1.heap.size 2 i0 _ 1 8 Tryd.underlying53 Hi.out Hz0.out Hz1.out Hz2.out rfl (by decide) (.slice va acc.length vc) acc.length (flatIn acc) rfl (owns_below hown2.out (by repeat (first | with_reducible exact Below.refl _ _ | (with_reducible refine kSet ?_ ?hB _; case hB => (simp; try omega)) | with_reducible refine kAlloc ?_ _ | with_reducible refine Below.drew ?_ | with_reducible refine kDrewN ?_ _ | with_reducible refine kTrans ?_ (by assumption)))) ⟨W2.heap.size, 0, none⟩ 1 1 [.int .i64 (1)] rfl rfl (World.news_of_block (cs := #[.int .i64 (1)]) (heap_alloc_new _ _)) (by simp [Value.oneCell']) ?qc4 ?qc5 ?qc6 ?_)
          case qc4 => have := Hacc.out; unfold maxLen; omega
          case qc5 => have := Hacc.out; omega
          case qc6 => have := T2w.size; have := hPW.out; simp; omega
          intro v6 w6 hown6 hgr hnil
          have Hown6 := Lib.hid (show w6.ownsRow w1.heap.size 2 1 v6 (acc ++ [(1)]).length (flatIn (acc ++ [(1)])) by rw [flatIn_end, List.length_append]; exact hown6)
          have T6 : Below w1.heap.size w1 w6 := grown_below (v := (.slice va acc.length vc)) (by repeat (first | with_reducible exact Below.refl _ _ | (with_reducible refine kSet ?_ ?hB _; case hB => (simp; try omega)) | with_reducible refine kAlloc ?_ _ | with_reducible refine Below.drew ?_ | with_reducible refine kDrewN ?_ _ | with_reducible refine kTrans ?_ (by assumption))) hgr (by intro q hq; exact (Hblk.out q hq).1)
          have ha6 : (acc ++ [(1)]).length = acc.length + 1 := by rw [List.length_append]; rfl
          clear hown6 hgr hnil
          go_wp2
          exact ⟨⟨acc.length + 1, _, by omega, by go_num, ha6, hF, hfi2, Hown6, T6⟩, by simp [intOf]; omega⟩
        · simp only at k2 hA hB
          obtain ⟨a, rfl⟩ : ∃ a : Nat, xa = a := ⟨xa.toNat, by omega⟩
          obtain ⟨b', rfl⟩ : ∃ b' : Nat, xb = b' := ⟨xb.toNat, by omega⟩
          obtain ⟨g, oo, rfl, hc, hbb, hcap, -⟩ := slIn_some (SlWIn.of_owns hown.out).sl (by omega)
          have ka' : a < acc.length := by omega
          have kb' : b' < acc.length := by omega
          have hcW := hc.below kW hbb
          have c1 := hcW a ka'
          have c2 := hcW b' kb'
          have hx1 := hfi.out.getD a
          have hy1 := hfi.out.getD b'
          obtain ⟨mm, hmm⟩ : ∃ mm, max (acc.getD a 0) (acc.getD b' 0) = mm := ⟨_, rfl⟩
          rw [getD_atI ka'] at hx1 hmm
          rw [getD_atI kb'] at hy1 hmm
          have Hmm0 := Lib.hid (show max (acc.getD a 0) (acc.getD b' 0) = mm by rw [getD_atI ka', getD_atI kb']; exact hmm)
          generalize acc[a] = xx at c1 hx1 hmm
          generalize acc[b'] = yy at c2 hy1 hmm
          have hm0 : 0 ≤ mm ∧ mm ≤ 240 := by omega
          have Hmm := Lib.hid hmm
          have hgW := Nat.lt_of_lt_of_le hbb kW.size
          clear hc hcW hmm hx1 hy1
          rcases k2 with k2 | k2
          · subst k2
            have e : depN ⟨2, a, b'⟩ acc = 2 + mm := by rw [← Hmm0.out]; simp [depN]
            rw [e] at hF hfi2
            have hwm : IntKind.i64.wrap (2 + mm) = 2 + mm := IntWalk.i64_in _ (by omega)
            have HMX := Lib.hid (fun W3 => l00Max_any xx yy W3 mm Hmm.out)
            clear e hq2 hd hf hfi hno hW bN kW hown
            go_upto_region 8 with fail
            try rw [HW.out]
            go_wp2_with fail
            go_quiet ((go_at_call 24; exact Calls.quiet_of_same ((HMX.out _).mono fun e w' h => ⟨h.1, h.2.symm⟩)))
            have kD : Below W2'.heap.size W2' (W2'.drewN nq) := kDrewN (Below.refl _ _) _
            generalize (W2'.drewN nq) = W2 at kD ⊢
            have T2w := kTrans hbW kD
            have hown2 := Lib.hid (owns_below hownW.out kD)
            have Hblk := Lib.hid (owns_block hown2.out)
            clear n0 n1 n2 y0 y1 y2 x0 x1 x2 hownW HW c1 c2
            go_wp2_with (at_builtin; refine wpList_append_own _ rfl _ _ 53 rfl w1.heap.size 2 i0 _ 1 8 Tryd.underlying53 Hi.out Hz0.out Hz1.out Hz2.out rfl (by decide) (.slice (some ⟨g, oo, none⟩) acc.length vc) acc.length (flatIn acc) rfl (owns_below hown2.out (by repeat (first | with_reducible exact Below.refl _ _ | (with_reducible refine kSet ?_ ?hB _; case hB => (simp; try omega)) | with_reducible refine kAlloc ?_ _ | with_reducible refine Below.drew ?_ | with_reducible refine kDrewN ?_ _ | with_reducible refine kTrans ?_ (by assumption)))) ⟨W2.heap.size, 0, none⟩ 1 1 [.int .i64 (2 + mm)] rfl rfl (World.news_of_block (cs := #[.int .i64 (2 + mm)]) (heap_alloc_new _ _)) (by simp [Value.oneCell']) ?qc4 ?qc5 ?qc6 ?_)
            case qc4 => have := Hacc.out; unfold maxLen; omega
            case qc5 => have := Hacc.out; omega
            case qc6 => have := T2w.size; have := hPW.out; simp; omega
            intro v6 w6 hown6 hgr hnil
            have Hown6 := Lib.hid (show w6.ownsRow w1.heap.size 2 1 v6 (acc ++ [(2 + mm)]).length (flatIn (acc ++ [(2 + mm)])) by rw [flatIn_end, List.length_append]; exact hown6)
            have T6 : Below w1.heap.size w1 w6 := grown_below (v := (.slice (some ⟨g, oo, none⟩) acc.length vc)) (by repeat (first | with_reducible exact Below.refl _ _ | (with_reducible refine kSet ?_ ?hB _; case hB => (simp; try omega)) | with_reducible refine kAlloc ?_ _ | with_reducible refine Below.drew ?_ | with_reducible refine kDrewN ?_ _ | with_reducible refine kTrans ?_ (by assumption))) hgr (by intro q hq; exact (Hblk.out q hq).1)
            have ha6 : (acc ++ [(2 + mm)]).length = acc.length + 1 := by rw [List.length_append]; rfl
            clear hown6 hgr hnil
            go_wp2
            exact ⟨⟨acc.length + 1, _, by omega, by go_num, ha6, hF, hfi2, Hown6, T6⟩, by simp [intOf]; omega⟩
          · subst k2
            have e : depN ⟨3, a, b'⟩ acc = 3 + mm := by rw [← Hmm0.out]; simp [depN]
            rw [e] at hF hfi2
            have hwm : IntKind.i64.wrap (3 + mm) = 3 + mm := IntWalk.i64_in _ (by omega)
            have HMX := Lib.hid (fun W3 => l00Max_any xx yy W3 mm Hmm.out)
            clear e hq2 hd hf hfi hno hW bN kW hown
            go_upto_region 8 with fail
            try rw [HW.out]
            go_wp2_with fail
            go_quiet ((go_at_call 24; exact Calls.quiet_of_same ((HMX.out _).mono fun e w' h => ⟨h.1, h.2.symm⟩)))
            have kD : Below W2'.heap.size W2' (W2'.drewN nq) := kDrewN (Below.refl _ _) _
            generalize (W2'.drewN nq) = W2 at kD ⊢
            have T2w := kTrans hbW kD
            have hown2 := Lib.hid (owns_below hownW.out kD)
            have Hblk := Lib.hid (owns_block hown2.out)
            clear n0 n1 n2 y0 y1 y2 x0 x1 x2 hownW HW c1 c2
            go_wp2_with (at_builtin; refine wpList_append_own _ rfl _ _ 53 rfl w1.heap.size 2 i0 _ 1 8 Tryd.underlying53 Hi.out Hz0.out Hz1.out Hz2.out rfl (by decide) (.slice (some ⟨g, oo, none⟩) acc.length vc) acc.length (flatIn acc) rfl (owns_below hown2.out (by repeat (first | with_reducible exact Below.refl _ _ | (with_reducible refine kSet ?_ ?hB _; case hB => (simp; try omega)) | with_reducible refine kAlloc ?_ _ | with_reducible refine Below.drew ?_ | with_reducible refine kDrewN ?_ _ | with_reducible refine kTrans ?_ (by assumption)))) ⟨W2.heap.size, 0, none⟩ 1 1 [.int .i64 (3 + mm)] rfl rfl (World.news_of_block (cs := #[.int .i64 (3 + mm)]) (heap_alloc_new _ _)) (by simp [Value.oneCell']) ?qc4 ?qc5 ?qc6 ?_)
            case qc4 => have := Hacc.out; unfold maxLen; omega
            case qc5 => have := Hacc.out; omega
            case qc6 => have := T2w.size; have := hPW.out; simp; omega
            intro v6 w6 hown6 hgr hnil
            have Hown6 := Lib.hid (show w6.ownsRow w1.heap.size 2 1 v6 (acc ++ [(3 + mm)]).length (flatIn (acc ++ [(3 + mm)])) by rw [flatIn_end, List.length_append]; exact hown6)
            have T6 : Below w1.heap.size w1 w6 := grown_below (v := (.slice (some ⟨g, oo, none⟩) acc.length vc)) (by repeat (first | with_reducible exact Below.refl _ _ | (with_reducible refine kSet ?_ ?hB _; case hB => (simp; try omega)) | with_reducible refine kAlloc ?_ _ | with_reducible refine Below.drew ?_ | with_reducible refine kDrewN ?_ _ | with_reducible refine kTrans ?_ (by assumption))) hgr (by intro q hq; exact (Hblk.out q hq).1)
            have ha6 : (acc ++ [(3 + mm)]).length = acc.length + 1 := by rw [List.length_append]; rfl
            clear hown6 hgr hnil
            go_wp2
            exact ⟨⟨acc.length + 1, _, by omega, by go_num, ha6, hF, hfi2, Hown6, T6⟩, by simp [intOf]; omega⟩
      · obtain rfl : N = acc.length := by omega
        obtain rfl : acc = D := by rw [← hf.out, List.drop_of_length_le (by rw [Hn.out]; omega)]; rfl
        obtain ⟨g, o, rfl, eC, eG, eL, _⟩ := slIn_some (SlWIn.of_owns hown.out).sl (by omega)
        have HC := Lib.hid eC
        have HE0 : Hid (mxL ((pickI acc p).drop 0) 0 = E) := Lib.hid HE.out
        clear hf hfi hown eC HE
        go_wp2
        go_loopw [8, 9] (fun m i wr' => ∃ (j : Nat) (s : Int), j ≤ q ∧ i = .int .i64 j ∧ m = .int .i64 s ∧ Hid (mxL ((pickI acc p).drop j) s = E) ∧ Below wr.heap.size wr wr') (fun _ i _ => q - (intOf i).toNat)
        case atStart => exact ⟨0, 0, by omega, rfl, rfl, HE0, by first | exact Below.refl _ _ | exact Below.drew (Below.refl _ _)⟩
        case round =>
          clear HE0 x0 x1 x2
          obtain ⟨j, s, hj, rfl, rfl, hf, hbr2⟩ := hrel
          have hbw2 := kTrans hbw hbr2
          obtain ⟨x0, x1, x2⟩ := id (HX.out _ hbw2)
          by_cases hlt : j < q
          · have hlk : j < p.length := by rw [Hq.out]; exact hlt
            have hlL : j < (pickI acc p).length := by rw [pickI_length, Hq.out]; exact hlt
            have cp := (HK.out _ hbw2).p1 j hlk
            have zk := (HK.out _ hbw2).z1
            have hr := HR.out _ (List.getElem_mem hlk)
            have hf2 := hf.out
            rw [mxL_drop hlL, pickI_get _ _ j hlL hlk] at hf2
            generalize p[j] = x at cp hr hf2
            simp only [Nat.zero_add] at cp
            obtain ⟨kx, rfl⟩ : ∃ kx : Nat, x = kx := ⟨x.toNat, by omega⟩
            have hkx : kx < acc.length := by omega
            have cx := (HC.out.below hbr2 eG) kx hkx
            have eG2 := Nat.lt_of_lt_of_le eG hbr2.size
            rw [Int.toNat_natCast, getD_atI hkx] at hf2
            generalize acc[kx] = z at cx hf2
            obtain ⟨mm, hmm⟩ : ∃ mm, max s z = mm := ⟨_, rfl⟩
            rw [hmm] at hf2
            have HF := Lib.hid hf2
            have HMX := Lib.hid (fun W3 => l00Max_any s z W3 mm hmm)
            clear hf hf2 hmm
            go_wp2_with fail
            refine (HMX.out _).mono ?_
            rintro e w5 ⟨rfl, rfl⟩
            go_wp2
            exact ⟨⟨j + 1, mm, by omega, by go_num, rfl, HF, by first | exact hbr2 | exact Below.drew hbr2⟩, by simp [intOf]; omega⟩
          · obtain rfl : j = q := by omega
            obtain rfl : s = E := by rw [← hf.out, List.drop_of_length_le (by rw [pickI_length, Hq.out]; exact Nat.le_refl _)]; rfl
            clear hf
            go_wp2
            exact bodyPost_ret (v := .tuple #[.int .i64 s, .int .i64 0]) (by simp [results, Tryd.results10, go_sem]) rfl ⟨rfl, kTrans ka hbw2⟩
end Go.Proofs.YtebicgfoaefabaaDoor
