/- Networks: the tables of all nodes; the model. -/
import Derived.Test.YtlbnhdnmcnfgdaaNt3
namespace Go.Proofs.Ytlbnhdnmcnfgdaa
open Go.ChangeShapes Go.WideShapes Go.ChangeAt Go.RowKit Go.Joins Go.Deep
set_option linter.unusedVariables false
set_option linter.unusedSimpArgs false

set_option maxRecDepth 100000 in
set_option maxHeartbeats 16000000 in
theorem l04Tables_any (n bb b k : Nat) (l : List Nd) (p : List Int) (w : World) (h0 : NwAt w bb n (.slice (some ⟨b, 0, none⟩) l.length l.length) (.slice (some ⟨k, 0, none⟩) p.length p.length)) (h : NK w b k l p) (hok : netOk n l p = true) :
    Calls Try.prog 64 #[.pointer (some ⟨bb, 0, none⟩)] w fun e w' => ∃ v, e = .returned v ∧ SlWUs w.heap.size w'.heap.size w' (tabsL n l []) v ∧ Below w.heap.size w w' := by
  have hn : 1 ≤ n ∧ n ≤ 6 := by have := (netOk_parts hok).1; omega
  have hl80 := (netOk_parts hok).2.1.2
  have hwn : IntKind.i64.wrap (n : Int) = n := IntWalk.i64_in _ (by omega)
  obtain ⟨i0, hi0, hz0, hzz1, hzz2⟩ := info_parts info_u64
  have Hi := Lib.hid hi0
  have Hz0 := Lib.hid hz0
  have Hz1 := Lib.hid hzz1
  have Hz2 := Lib.hid hzz2
  have HN := Lib.hid (fun i (hi : i < l.length) => netOk_node hok i hi)
  have HK := Lib.hid (fun W (hW : Below w.heap.size w W) => h.below hW)
  have lbb := h0.lt
  have HX := Lib.hid (fun W (hW : Below w.heap.size w W) => h0.below hW lbb)
  have zb := h.z0
  obtain ⟨x0, x1, x2⟩ := h0
  obtain ⟨N, hN⟩ : ∃ N, l.length = N := ⟨_, rfl⟩
  have Hn := Lib.hid hN
  obtain ⟨T, hT⟩ : ∃ T, tabsL n l [] = T := ⟨_, rfl⟩
  have HT : Hid (tabsL n (l.drop 0) [] = T) := Lib.hid hT
  rw [hN] at hl80 HX x1
  rw [hT]
  have own0 : Hid ((w.alloc (.cells #[] 91)).ownsRow w.heap.size 91 1 (.slice (some ⟨w.heap.size, 0, none⟩) 0 0) ([] : List Int).length (flatUs [])) := Lib.hid (owns_new (Nat.le_refl _) (heap_alloc_new _ _))
  have hk0 : Below w.heap.size w (w.alloc (.cells #[] 91)) := by repeat (first | with_reducible exact Below.refl _ _ | (with_reducible refine kSet ?_ ?hB _; case hB => (simp; try omega)) | with_reducible refine kAlloc ?_ _ | with_reducible refine Below.drew ?_ | with_reducible refine kDrewN ?_ _ | with_reducible refine kTrans ?_ (by assumption))
  clear h hok hN hT hi0 hz0 hzz1 hzz2
  go_enter Try.func64, Try.ntmps64
  go_wp2_with fail
  refine (l04Full_any n _ hn).mono ?_
  rintro e w1 ⟨rfl, rfl⟩
  go_wp2
  clear x0 x1 x2
  go_loopw [4, 5, 6, 7] (fun out i _ _ wr => ∃ (j : Nat) (acc : List Int), j ≤ N ∧ i = .int .i64 j ∧ acc.length = j ∧ Hid (tabsL n (l.drop j) acc = T) ∧ Hid (wr.ownsRow w.heap.size 91 1 out acc.length (flatUs acc)) ∧ Below w.heap.size w wr) (fun _ i _ _ _ => N - (intOf i).toNat)
  case atStart => exact ⟨0, [], by omega, rfl, rfl, HT, own0, hk0⟩
  case round =>
    clear HT own0 hk0
    obtain ⟨_, acc, hj, rfl, rfl, hf, hown, hbr⟩ := hrel
    have Hacc : Hid (acc.length = acc.length) := Lib.hid rfl
    obtain ⟨va, vc, rfl⟩ := owns_slice hown.out
    obtain ⟨x0, x1, x2⟩ := id (HX.out wr hbr)
    have hlb := Nat.lt_of_lt_of_le lbb hbr.size
    by_cases hlt : acc.length < N
    · have hlk : acc.length < l.length := by rw [Hn.out]; exact hlt
      have hpa := (HK.out wr hbr).p0 acc.length hlk
      have hzb := Nat.lt_of_lt_of_le zb hbr.size
      have hd : l.drop acc.length = l[acc.length] :: l.drop (acc.length + 1) := List.drop_eq_getElem_cons hlk
      have hno := HN.out acc.length hlk
      generalize l[acc.length] = x at hpa hd hno
      obtain ⟨xk, xa, xb⟩ := x
      obtain ⟨a0, a1, a2⟩ := hpa
      simp only [Nat.zero_add] at a0 a1 a2
      have hq2 := hf.out
      rw [hd] at hq2
      have hF : Hid (tabsL n (l.drop (acc.length + 1)) (acc ++ [tabOf n acc ⟨xk, xa, xb⟩]) = T) := Lib.hid hq2
      obtain ⟨W, hW⟩ : ∃ W, wr.alloc (.cells #[.int .i8 xk, .int .i16 xa, .int .i16 xb] 83) = W := ⟨_, rfl⟩
      have kW : Below wr.heap.size wr W := by rw [← hW]; exact kAlloc (Below.refl _ _) _
      have bN : W.heap[wr.heap.size]? = some (.cells #[.int .i8 xk, .int .i16 xa, .int .i16 xb] 83 (0, 0)) := by rw [← hW]; exact nNew _ _
      have n0 : W.cell? ⟨wr.heap.size, 0, none⟩ = some (.int .i8 xk) := cell_of_row _ _ 0 _ _ _ bN
      have n1 : W.cell? ⟨wr.heap.size, 1, none⟩ = some (.int .i16 xa) := cell_of_row _ _ 1 _ _ _ bN
      have n2 : W.cell? ⟨wr.heap.size, 2, none⟩ = some (.int .i16 xb) := cell_of_row _ _ 2 _ _ _ bN
      obtain ⟨y0, y1, y2⟩ := id (HX.out W (kTrans hbr kW))
      have HW := Lib.hid hW
      have hbW := kTrans hbr kW
      have hownW := Lib.hid (owns_below hown.out kW)
      have hzW := kW.size
      rcases nodeOk_cases hno with ⟨k0, hA, hB⟩ | ⟨k1, hA, hB⟩ | ⟨k2, hA, hB⟩
      · simp only at k0 hA hB
        obtain ⟨a, rfl⟩ : ∃ a : Nat, xa = a := ⟨xa.toNat, by omega⟩
        subst k0 hB
        have e : tabOf n acc ⟨0, a, 0⟩ = inT a (2 ^ n) := by unfold tabOf; rw [if_pos rfl]; rfl
        rw [e] at hF
        have hwa : IntKind.i64.wrap (a : Int) = a := IntWalk.i64_in _ (by omega)
        clear e hq2 hd hf hno hW bN kW hown
        go_upto_region 7 with fail
        try rw [HW.out]
        go_wp2
        go_still_tail 8, (by kernel_rfl)
        change wpList _ _ _ _ _ W.drew
        have kD : Below W.heap.size W W.drew := Below.drew (Below.refl _ _)
        generalize W.drew = W2 at kD ⊢
        have T2w := kTrans hbW kD
        have hown2 := Lib.hid (owns_below hownW.out kD)
        have Hblk := Lib.hid (owns_block hown2.out)
        clear n0 n1 n2 y0 y1 y2 x0 x1 x2 hownW HW
        go_wp2_with fail
        refine (l04Input_any n a _ hn (by omega)).mono ?_
        rintro e w3 ⟨rfl, rfl⟩
        go_wp2_with (at_builtin; refine wpList_append_own _ rfl _ _ 39 rfl w.heap.size 91 i0 _ 1 8 Try.underlying39 Hi.out Hz0.out Hz1.out Hz2.out rfl (by decide) (.slice va acc.length vc) acc.length (flatUs acc) rfl (owns_below hown2.out (by repeat (first | with_reducible exact Below.refl _ _ | (with_reducible refine kSet ?_ ?hB _; case hB => (simp; try omega)) | with_reducible refine kAlloc ?_ _ | with_reducible refine Below.drew ?_ | with_reducible refine kDrewN ?_ _ | with_reducible refine kTrans ?_ (by assumption)))) ⟨W2.heap.size, 0, none⟩ 1 1 [.int .u64 (inT a (2 ^ n))] rfl rfl (World.news_of_block (cs := #[.int .u64 (inT a (2 ^ n))]) (heap_alloc_new _ _)) (by simp [Value.oneCell']) ?qc4 ?qc5 ?qc6 ?_)
        case qc4 => have := Hacc.out; unfold maxLen; omega
        case qc5 => have := Hacc.out; omega
        case qc6 => have := T2w.size; simp; omega
        intro v6 w6 hown6 hgr hnil
        have Hown6 := Lib.hid (show w6.ownsRow w.heap.size 91 1 v6 (acc ++ [(inT a (2 ^ n))]).length (flatUs (acc ++ [(inT a (2 ^ n))])) by rw [flatUs_end, List.length_append]; exact hown6)
        have T6 : Below w.heap.size w w6 := grown_below (v := (.slice va acc.length vc)) (by repeat (first | with_reducible exact Below.refl _ _ | (with_reducible refine kSet ?_ ?hB _; case hB => (simp; try omega)) | with_reducible refine kAlloc ?_ _ | with_reducible refine Below.drew ?_ | with_reducible refine kDrewN ?_ _ | with_reducible refine kTrans ?_ (by assumption))) hgr (by intro q hq; exact (Hblk.out q hq).1)
        have ha6 : (acc ++ [(inT a (2 ^ n))]).length = acc.length + 1 := by rw [List.length_append]; rfl
        clear hown6 hgr hnil
        go_wp2
        exact ⟨⟨acc.length + 1, _, by omega, by go_num, ha6, hF, Hown6, T6⟩, by simp [intOf]; omega⟩
      · skip
        simp only at k1 hA hB
        subst k1 hA hB
        have e : tabOf n acc ⟨1, 0, 0⟩ = fullT n := rfl
        rw [e] at hF
        clear e hq2 hd hf hno hW bN kW hown
        go_upto_region 7 with fail
        try rw [HW.out]
        have T2w := hbW
        have hown2 := hownW
        have Hblk := Lib.hid (owns_block hown2.out)
        obtain ⟨W2, rfl⟩ : ∃ W2 : World, W2 = W := ⟨_, rfl⟩
        go_wp2_with (at_builtin; refine wpList_append_own _ rfl _ _ 39 rfl w.heap.size 91 i0 _ 1 8 Try.underlying39 Hi.out Hz0.out Hz1.out Hz2.out rfl (by decide) (.slice va acc.length vc) acc.length (flatUs acc) rfl (owns_below hown2.out (by repeat (first | with_reducible exact Below.refl _ _ | (with_reducible refine kSet ?_ ?hB _; case hB => (simp; try omega)) | with_reducible refine kAlloc ?_ _ | with_reducible refine Below.drew ?_ | with_reducible refine kDrewN ?_ _ | with_reducible refine kTrans ?_ (by assumption)))) ⟨W2.heap.size, 0, none⟩ 1 1 [.int .u64 (fullT n)] rfl rfl (World.news_of_block (cs := #[.int .u64 (fullT n)]) (heap_alloc_new _ _)) (by simp [Value.oneCell']) ?qc4 ?qc5 ?qc6 ?_)
        case qc4 => have := Hacc.out; unfold maxLen; omega
        case qc5 => have := Hacc.out; omega
        case qc6 => have := T2w.size; simp; omega
        intro v6 w6 hown6 hgr hnil
        have Hown6 := Lib.hid (show w6.ownsRow w.heap.size 91 1 v6 (acc ++ [(fullT n)]).length (flatUs (acc ++ [(fullT n)])) by rw [flatUs_end, List.length_append]; exact hown6)
        have T6 : Below w.heap.size w w6 := grown_below (v := (.slice va acc.length vc)) (by repeat (first | with_reducible exact Below.refl _ _ | (with_reducible refine kSet ?_ ?hB _; case hB => (simp; try omega)) | with_reducible refine kAlloc ?_ _ | with_reducible refine Below.drew ?_ | with_reducible refine kDrewN ?_ _ | with_reducible refine kTrans ?_ (by assumption))) hgr (by intro q hq; exact (Hblk.out q hq).1)
        have ha6 : (acc ++ [(fullT n)]).length = acc.length + 1 := by rw [List.length_append]; rfl
        clear hown6 hgr hnil
        go_wp2
        exact ⟨⟨acc.length + 1, _, by omega, by go_num, ha6, hF, Hown6, T6⟩, by simp [intOf]; omega⟩
      · skip
        simp only at k2 hA hB
        obtain ⟨a, rfl⟩ : ∃ a : Nat, xa = a := ⟨xa.toNat, by omega⟩
        obtain ⟨b', rfl⟩ : ∃ b' : Nat, xb = b' := ⟨xb.toNat, by omega⟩
        have hs2 : ∃ bb' oo, va = some ⟨bb', oo, none⟩ ∧ UssAt wr bb' oo acc ∧ bb' < wr.heap.size ∧ acc.length ≤ vc := by
          have hs := slUs_of_owns hown.out
          generalize hv : Value.slice va acc.length vc = v at hs
          cases hs with
          | empty _ _ h => rw [h] at hA; simp at hA; omega
          | mk bb' oo cc h1 h2 h3 =>
            cases hv
            exact ⟨bb', oo, rfl, h1, h2, h3⟩
        obtain ⟨g, oo, rfl, hc, hbb, hcap⟩ := hs2
        have ka' : a < acc.length := by omega
        have kb' : b' < acc.length := by omega
        have hcW := hc.below kW hbb
        have c1 := hcW a ka'
        have c2 := hcW b' kb'
        rw [← getD_at ka'] at c1
        rw [← getD_at kb'] at c2
        obtain ⟨xx, hxx⟩ : ∃ xx, acc.getD a 0 = xx := ⟨_, rfl⟩
        obtain ⟨yy, hyy⟩ : ∃ yy, acc.getD b' 0 = yy := ⟨_, rfl⟩
        rw [hxx] at c1
        rw [hyy] at c2
        have Hxx := Lib.hid hxx
        have Hyy := Lib.hid hyy
        clear hxx hyy
        have hgW := Nat.lt_of_lt_of_le hbb kW.size
        clear hc hcW
        rcases k2 with k2 | k2
        · subst k2
          have e : tabOf n acc ⟨2, a, b'⟩ = Go.bits .or .u64 (acc.getD a 0) (acc.getD b' 0) := rfl
          rw [e, Hxx.out, Hyy.out] at hF
          clear e hq2 hd hf hno hW bN kW hown
          go_upto_region 7 with fail
          try rw [HW.out]
          go_wp2
          go_quiet (fail)
          have kD : Below W.heap.size W (W.drewN nq) := kDrewN (Below.refl _ _) _
          generalize (W.drewN nq) = W2 at kD ⊢
          have T2w := kTrans hbW kD
          have hown2 := Lib.hid (owns_below hownW.out kD)
          have Hblk := Lib.hid (owns_block hown2.out)

          clear n0 n1 n2 y0 y1 y2 x0 x1 x2 hownW HW c1 c2
          go_wp2_with (at_builtin; refine wpList_append_own _ rfl _ _ 39 rfl w.heap.size 91 i0 _ 1 8 Try.underlying39 Hi.out Hz0.out Hz1.out Hz2.out rfl (by decide) (.slice (some ⟨g, oo, none⟩) acc.length vc) acc.length (flatUs acc) rfl (owns_below hown2.out (by repeat (first | with_reducible exact Below.refl _ _ | (with_reducible refine kSet ?_ ?hB _; case hB => (simp; try omega)) | with_reducible refine kAlloc ?_ _ | with_reducible refine Below.drew ?_ | with_reducible refine kDrewN ?_ _ | with_reducible refine kTrans ?_ (by assumption)))) ⟨W2.heap.size, 0, none⟩ 1 1 [.int .u64 (Go.bits .or .u64 xx yy)] rfl rfl (World.news_of_block (cs := #[.int .u64 (Go.bits .or .u64 xx yy)]) (heap_alloc_new _ _)) (by simp [Value.oneCell']) ?qc4 ?qc5 ?qc6 ?_)
          case qc4 => have := Hacc.out; unfold maxLen; omega
          case qc5 => have := Hacc.out; omega
          case qc6 => have := T2w.size; simp; omega
          intro v6 w6 hown6 hgr hnil
          have Hown6 := Lib.hid (show w6.ownsRow w.heap.size 91 1 v6 (acc ++ [(Go.bits .or .u64 xx yy)]).length (flatUs (acc ++ [(Go.bits .or .u64 xx yy)])) by rw [flatUs_end, List.length_append]; exact hown6)
          have T6 : Below w.heap.size w w6 := grown_below (v := (.slice (some ⟨g, oo, none⟩) acc.length vc)) (by repeat (first | with_reducible exact Below.refl _ _ | (with_reducible refine kSet ?_ ?hB _; case hB => (simp; try omega)) | with_reducible refine kAlloc ?_ _ | with_reducible refine Below.drew ?_ | with_reducible refine kDrewN ?_ _ | with_reducible refine kTrans ?_ (by assumption))) hgr (by intro q hq; exact (Hblk.out q hq).1)
          have ha6 : (acc ++ [(Go.bits .or .u64 xx yy)]).length = acc.length + 1 := by rw [List.length_append]; rfl
          clear hown6 hgr hnil
          go_wp2
          exact ⟨⟨acc.length + 1, _, by omega, by go_num, ha6, hF, Hown6, T6⟩, by simp [intOf]; omega⟩
        · subst k2
          have e : tabOf n acc ⟨3, a, b'⟩ = Go.bits .andNot .u64 (acc.getD a 0) (acc.getD b' 0) := rfl
          rw [e, Hxx.out, Hyy.out] at hF
          clear e hq2 hd hf hno hW bN kW hown
          go_upto_region 7 with fail
          try rw [HW.out]
          go_wp2
          go_quiet (fail)
          have kD : Below W.heap.size W (W.drewN nq) := kDrewN (Below.refl _ _) _
          generalize (W.drewN nq) = W2 at kD ⊢
          have T2w := kTrans hbW kD
          have hown2 := Lib.hid (owns_below hownW.out kD)
          have Hblk := Lib.hid (owns_block hown2.out)

          clear n0 n1 n2 y0 y1 y2 x0 x1 x2 hownW HW c1 c2
          go_wp2_with (at_builtin; refine wpList_append_own _ rfl _ _ 39 rfl w.heap.size 91 i0 _ 1 8 Try.underlying39 Hi.out Hz0.out Hz1.out Hz2.out rfl (by decide) (.slice (some ⟨g, oo, none⟩) acc.length vc) acc.length (flatUs acc) rfl (owns_below hown2.out (by repeat (first | with_reducible exact Below.refl _ _ | (with_reducible refine kSet ?_ ?hB _; case hB => (simp; try omega)) | with_reducible refine kAlloc ?_ _ | with_reducible refine Below.drew ?_ | with_reducible refine kDrewN ?_ _ | with_reducible refine kTrans ?_ (by assumption)))) ⟨W2.heap.size, 0, none⟩ 1 1 [.int .u64 (Go.bits .andNot .u64 xx yy)] rfl rfl (World.news_of_block (cs := #[.int .u64 (Go.bits .andNot .u64 xx yy)]) (heap_alloc_new _ _)) (by simp [Value.oneCell']) ?qc4 ?qc5 ?qc6 ?_)
          case qc4 => have := Hacc.out; unfold maxLen; omega
          case qc5 => have := Hacc.out; omega
          case qc6 => have := T2w.size; simp; omega
          intro v6 w6 hown6 hgr hnil
          have Hown6 := Lib.hid (show w6.ownsRow w.heap.size 91 1 v6 (acc ++ [(Go.bits .andNot .u64 xx yy)]).length (flatUs (acc ++ [(Go.bits .andNot .u64 xx yy)])) by rw [flatUs_end, List.length_append]; exact hown6)
          have T6 : Below w.heap.size w w6 := grown_below (v := (.slice (some ⟨g, oo, none⟩) acc.length vc)) (by repeat (first | with_reducible exact Below.refl _ _ | (with_reducible refine kSet ?_ ?hB _; case hB => (simp; try omega)) | with_reducible refine kAlloc ?_ _ | with_reducible refine Below.drew ?_ | with_reducible refine kDrewN ?_ _ | with_reducible refine kTrans ?_ (by assumption))) hgr (by intro q hq; exact (Hblk.out q hq).1)
          have ha6 : (acc ++ [(Go.bits .andNot .u64 xx yy)]).length = acc.length + 1 := by rw [List.length_append]; rfl
          clear hown6 hgr hnil
          go_wp2
          exact ⟨⟨acc.length + 1, _, by omega, by go_num, ha6, hF, Hown6, T6⟩, by simp [intOf]; omega⟩

    · obtain rfl : N = acc.length := by omega
      have hTa : acc = T := by rw [← hf.out, List.drop_of_length_le (by rw [Hn.out]; omega)]; rfl
      subst hTa
      have HW := Lib.hid (SlWUs.of_owns hown.out)
      clear hf hown
      go_wp2
      go_ret
      exact ⟨_, rfl, HW.out, hbr⟩
end Go.Proofs.Ytlbnhdnmcnfgdaa
