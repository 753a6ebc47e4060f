/- ReadSpans: the model. -/
import Derived.Test.YthngnbaoaeomeaaDoorSz0
import Derived.RangeFuncBox
import Derived.Deep.DeepCutAuto
namespace Go.Proofs.YthngnbaoaeomeaaDoor
open Go.ChangeShapes Go.WideShapes Go.ChangeAt Go.RowKit Go.Joins Go.Deep
set_option linter.unusedVariables false
set_option linter.unusedSimpArgs false

theorem sz_two {ws : List (List UInt8)} (h : ws.length = 2) : ∃ a0 a1, ws = [a0, a1] := by
  match ws, h with
  | [a0, a1], _ => exact ⟨a0, a1, rfl⟩
theorem sz_of {x a0 a1 : List UInt8} (hw : spl 45 x = [a0, a1]) {q : Sq} (hq : sqIn q) (h : x = spW q) : smB a0 = true ∧ smB a1 = true ∧ smX a0 = q.low ∧ smX a1 = q.high := by
  rw [h, spW_words] at hw
  simp only [List.cons.injEq, and_true] at hw
  unfold sqIn at hq
  obtain ⟨c0, d0⟩ := (smQ_any a0).of q.low (by omega) (by omega) hw.1.symm
  obtain ⟨c1, d1⟩ := (smQ_any a1).of q.high (by omega) (by omega) hw.2.symm
  exact ⟨c0, c1, d0, d1⟩
theorem sz_back {x a0 a1 : List UInt8} (hw : spl 45 x = [a0, a1]) (h0 : smB a0 = true) (h1 : smB a1 = true) : x = spW ⟨smX a0, smX a1⟩ := by
  have e := spl_back hw
  rw [(smQ_any a0).yes h0, (smQ_any a1).yes h1] at e
  rw [e]
  unfold spW
  rw [Lib.join_cons]
  simp [Lib.joinTail]
theorem sz_all {l : List UInt8} {A : List Sq} (hN : A.length = (spl 32 l).length) (h : ∀ (j : Nat) (hj : j < A.length), (spl 32 l)[j]? = some (spW A[j])) : spL A = l := by
  have e : spl 32 l = A.map spW := by
    apply List.ext_getElem?
    intro j
    by_cases hj : j < A.length
    · rw [h j hj, List.getElem?_map, List.getElem?_eq_getElem hj]; rfl
    · rw [List.getElem?_eq_none (by omega), List.getElem?_eq_none (by rw [List.length_map]; omega)]
  unfold spL
  exact (spl_back e).symm
theorem sz_more {l : List UInt8} {A : List Sq} {p : Sq} (h : ∀ (j : Nat) (hj : j < A.length), (spl 32 l)[j]? = some (spW A[j])) (hp : (spl 32 l)[A.length]? = some (spW p)) : ∀ (j : Nat) (hj : j < (A ++ [p]).length), (spl 32 l)[j]? = some (spW (A ++ [p])[j]) := by
  intro j hj
  rw [List.length_append] at hj
  simp only [List.length_cons, List.length_nil] at hj
  by_cases e : j < A.length
  · rw [List.getElem_append_left e]; exact h j e
  · obtain rfl : j = A.length := by omega
    rw [List.getElem_append_right (Nat.le_refl _)]
    simp only [Nat.sub_self, List.getElem_cons_zero]
    exact hp
theorem own_notS {w : World} {base n g : Nat} {e : TypeId} {a : Option Addr} {c : Nat} {y : Int} {k : IntKind} {ys : List Value} {s : ByteArray} (h : w.ownsRow base e 2 (.slice a (n + 1) c) (n + 1) (.int k y :: ys)) (hg : w.cell? ⟨g, 0, none⟩ = some (.string s)) : (Value.slice a (n + 1) c).ownBlock ≠ some g := by
  obtain ⟨g6, c6, h6⟩ := ownsRow_succ h
  cases h6
  intro e
  obtain rfl : g6 = g := by simpa [Value.ownBlock] using e
  have h1 := h.cellAt 0 (by omega)
  rw [hg] at h1
  simp at h1
set_option maxRecDepth 100000 in
set_option maxHeartbeats 16000000 in
theorem specReadSpans_any (l : List UInt8) (w : World) (hl : l.length ≤ 1048576) (L : List Sq) (Cc : Int) (hA : SzA l L Cc) : Calls Tryd.prog 22 #[.string (bsT l)] w (SzPost L Cc w) := by
  obtain ⟨j0, hj0, hj1, hj2, hj3⟩ := info_parts info_SqR
  have Hj := Lib.hid hj0
  have Hj1 := Lib.hid hj1
  have Hj2 := Lib.hid hj2
  have Hj3 := Lib.hid hj3
  have HA := Lib.hid hA
  obtain ⟨B, hB⟩ : ∃ B, w.heap.size = B := ⟨_, rfl⟩
  obtain ⟨W1, hW1⟩ : ∃ z, w.alloc (.cells #[] 89) = z := ⟨_, rfl⟩
  have k1 : Below w.heap.size w W1 := by rw [← hW1]; exact kAlloc (Below.refl _ _) _
  have own0 := Lib.hid (show W1.ownsRow B 89 2 (.slice (some ⟨B, 0, none⟩) ([] : List Sq).length 0) ([] : List Sq).length (flatSq []) from owns_new (Nat.le_refl _) (by rw [← hW1, ← hB]; exact heap_alloc_new _ _))
  have hBW : B < W1.heap.size := by rw [← hW1, ← hB]; simp
  have HK1 := Lib.hid k1
  have Hw1 := Lib.hid hW1
  have HBe := Lib.hid hB
  clear hj0 hj1 hj2 hj3 hA hW1 hB k1
  by_cases hl0 : l = []
  · subst hl0
    obtain ⟨rfl, rfl⟩ := HA.out.yes (r := []) rfl rfl
    obtain ⟨S, hS⟩ : ∃ S, bsT [] = S := ⟨_, rfl⟩
    have zz : S.toList.isEmpty = true := by rw [← hS, toL_bsT]; rfl
    have zz2 : S.toList = [] := by rw [← hS, toL_bsT]
    rw [hS]
    clear HA hS
    go_enter Tryd.func22, Tryd.ntmps22
    go_upto_region 2 with fail
    try rw [Hw1.out]
    try rw [HBe.out]
    clear Hw1
    go_wp2
    exact bodyPost_ret (v := .tuple #[.slice (some ⟨B, 0, none⟩) 0 0, .int .i64 0]) (by simp [results, Tryd.results22, go_sem]) rfl ⟨_, rfl, .empty _ _ rfl, HK1.out⟩
  · have HSP := Lib.hid (l01Split_any l 32 W1 (by omega) 32 rfl)
    obtain ⟨S, hS⟩ : ∃ S, bsT l = S := ⟨_, rfl⟩
    have zz2 : ¬ S.toList = [] := by rw [← hS, toL_bsT]; exact hl0
    have zz : S.toList.isEmpty = false := List.isEmpty_eq_false_iff.2 zz2
    have hNl := spl_length 32 l
    obtain ⟨N, hN⟩ : ∃ N, (spl 32 l).length = N := ⟨_, rfl⟩
    have HSH := Lib.hid (fun x (hx : x ∈ spl 32 l) => (by have := spl_short 32 l x hx; omega : x.length ≤ 1048576))
    have HN := Lib.hid hN
    have hNb : N ≤ 1048577 := by omega
    have hN1 : 0 < N := by
      obtain ⟨x, r, h⟩ := spl_some 32 l
      rw [← hN, h]; simp
    rw [hS] at HSP ⊢
    clear hS hl hNl hN
    go_enter Tryd.func22, Tryd.ntmps22
    go_upto_region 2 with fail
    try rw [Hw1.out]
    try rw [HBe.out]
    clear Hw1
    go_wp2_with fail
    refine HSP.out.mono ?_
    rintro e w1 ⟨g, cap, rfl, hcap, hst, hg, hgl, hb1⟩
    rw [HN.out] at hcap ⊢
    have own1 := Lib.hid (owns_below own0.out hb1)
    have HST0 := Lib.hid hst
    have HBl0 := Lib.hid (show Below w.heap.size w w1 from kTrans HK1.out hb1)
    have hne0 := Lib.hid (show (Value.slice (some ⟨B, 0, none⟩) ([] : List Sq).length 0).ownBlock ≠ some g from by
      intro e
      have : B = g := by simpa [Value.ownBlock] using e
      omega)
    have HWd0 := Lib.hid (show ∀ (j : Nat) (hj : j < ([] : List Sq).length), (spl 32 l)[j]? = some (spW ([] : List Sq)[j]) from fun j hj => by simp at hj)
    have HIn0 := Lib.hid (show ∀ p ∈ ([] : List Sq), sqIn p from fun p hp => by simp at hp)
    have hg0 := Lib.hid hg
    clear HSP hst hb1 own0 HK1 hg hgl hBW zz zz2
    go_wp2
    go_loopw [4, 6, 7, 8, 9, 10, 11, 12] (fun vl vi v7 v8 v9 v10 v11 v12 wr => ∃ (A : List Sq) (va : Option Addr) (vc c : Nat), c ≤ N ∧ c ≤ 60 ∧ Hid (c = A.length) ∧ vl = .slice va A.length vc ∧ vi = .int .i64 c ∧ Hid (∀ (j : Nat) (hj : j < A.length), (spl 32 l)[j]? = some (spW A[j])) ∧ Hid (∀ p ∈ A, sqIn p) ∧ Hid (wr.ownsRow B 89 2 (.slice va A.length vc) A.length (flatSq A)) ∧ Hid (StAt wr g 0 (spl 32 l)) ∧ Hid (g < wr.heap.size) ∧ Hid ((Value.slice va A.length vc).ownBlock ≠ some g) ∧ Hid (Below w.heap.size w wr)) (fun _ vi _ _ _ _ _ _ _ => N - (intOf vi).toNat)
    case atStart => exact ⟨[], _, _, 0, by omega, by omega, Lib.hid rfl, rfl, rfl, HWd0, HIn0, own1, HST0, hg0, hne0, HBl0⟩
    case round =>
      clear HWd0 HIn0 own1 HST0 hg0 hne0 HBl0
      obtain ⟨A, va, vc, c, hcN, hc60, HCc, rfl, rfl, HWd, HIn, hown, HST, hg, hne, hBl⟩ := hrel
      have hBs := hBl.out.size
      by_cases hlt : c < N
      · obtain ⟨x, hx⟩ : ∃ x, (spl 32 l)[A.length]? = some x := ⟨_, List.getElem?_eq_getElem (by have := HN.out; have := HCc.out; omega)⟩
        have hxm : x.length ≤ 1048576 := HSH.out x (List.mem_of_getElem? hx)
        have q : wr.cell? ⟨g, c, none⟩ = some (.string (bsT x)) := by have h := HST.out c x (by rw [HCc.out]; exact hx); rwa [Nat.zero_add] at h
        have hgr := hg.out
        have HS2 := Lib.hid (l01Split_any x 45 wr (by omega) 45 rfl)
        have Hx := Lib.hid hx
        clear hx hxm
        go_wp2_with fail
        refine HS2.out.mono ?_
        rintro e w3 ⟨g3, cap3, rfl, hcap3, hst3, hg3, _, hb3⟩
        have T3 := Lib.hid (kTrans hBl.out hb3)
        have HB3 := Lib.hid hb3
        have hb3s := hb3.size
        obtain ⟨n3, hn3⟩ : ∃ n3, (spl 45 x).length = n3 := ⟨_, rfl⟩
        rw [hn3] at hcap3 ⊢
        clear HS2 hb3 q
        by_cases h3 : n3 = 2
        · by_cases hc6 : c = 60
          · obtain ⟨rfl, rfl⟩ := HA.out.no (sz_full hl0 (k := c) (by rw [HN.out]; exact hlt) (by omega))
            have e7 : ((c : Nat) : Int) = 60 := by omega
            have e6 : ((n3 : Nat) : Int) = 2 := by omega
            have Tx := T3.out
            clear HA hst3 hn3
            go_wp2
            exact bodyPost_ret (v := .tuple #[.slice (some ⟨w3.heap.size, 0, none⟩) 0 0, .int .i64 5]) (by simp [results, Tryd.results22, go_sem]) rfl ⟨_, rfl, .empty _ _ rfl, kAlloc Tx _⟩
          · subst h3
            have e7 : ¬ ((c : Nat) : Int) = 60 := by omega
            obtain ⟨a0, a1, hws⟩ := sz_two hn3
            have HWS := Lib.hid hws
            rw [hws] at hst3
            have q0 : w3.cell? ⟨g3, 0, none⟩ = some (.string (bsT a0)) := by have h := hst3 0 a0 rfl; rwa [Nat.zero_add] at h
            have q1 : w3.cell? ⟨g3, 1, none⟩ = some (.string (bsT a1)) := by have h := hst3 1 a1 rfl; rwa [Nat.zero_add] at h
            obtain ⟨x0, hx0⟩ : ∃ v, smX a0 = v := ⟨_, rfl⟩
            obtain ⟨x1, hx1⟩ : ∃ v, smX a1 = v := ⟨_, rfl⟩
            obtain ⟨o0, ho0⟩ : ∃ v, smB a0 = v := ⟨_, rfl⟩
            obtain ⟨o1, ho1⟩ : ∃ v, smB a1 = v := ⟨_, rfl⟩
            have HN0 := Lib.hid (l01Small_any a0 w3 x0 o0 hx0 ho0)
            have HN1 := Lib.hid (l01Small_any a1 w3 x1 o1 hx1 ho1)
            have HOF := Lib.hid (fun (q : Sq) (hq : sqIn q) (h : x = spW q) => (by have h2 := sz_of HWS.out hq h; rw [hx0, hx1, ho0, ho1] at h2; exact h2 : o0 = true ∧ o1 = true ∧ x0 = q.low ∧ x1 = q.high))
            have HBK := Lib.hid (fun (h0 : o0 = true) (h1 : o1 = true) => (by have h2 := sz_back HWS.out (by rw [ho0]; exact h0) (by rw [ho1]; exact h1); rw [hx0, hx1] at h2; exact h2 : x = spW ⟨x0, x1⟩))
            have r0 := (smQ_any a0).lo; have r1 := (smQ_any a0).hi; have r2 := (smQ_any a1).lo; have r3 := (smQ_any a1).hi
            rw [hx0] at r0 r1; rw [hx1] at r2 r3
            clear hws hst3 hn3 hx0 hx1 ho0 ho1
            go_wp2_with fail
            refine HN0.out.mono ?_
            rintro e w' ⟨rfl, h⟩
            obtain rfl : w3 = w' := h
            go_wp2_with fail
            refine HN1.out.mono ?_
            rintro e w' ⟨rfl, h⟩
            obtain rfl : w3 = w' := h
            obtain ⟨w4, hw4⟩ : ∃ z, w3.alloc (.cells #[.int .i8 x0, .int .i8 x1] 89) = z := ⟨_, rfl⟩
            have k4 : Below w3.heap.size w3 w4 := by rw [← hw4]; exact kAlloc (Below.refl _ _) _
            have b4 : w4.heap[w3.heap.size]? = some (.cells #[.int .i8 x0, .int .i8 x1] 89 (0, 0)) := by rw [← hw4]; exact heap_alloc_new _ _
            obtain ⟨G, hG⟩ : ∃ G, w3.heap.size = G := ⟨_, rfl⟩
            rw [hG] at b4
            have HG4 := Lib.hid b4
            have K34 := Lib.hid k4
            have T4 := Lib.hid (kTrans T3.out k4)
            have Hw4 := Lib.hid hw4
            have HGe := Lib.hid hG
            clear HN0 HN1 q0 q1 hw4 hG b4 k4
            go_upto_region 14 with fail
            try rw [Hw4.out]
            try rw [HGe.out]
            clear Hw4
            have d0 : w4.cell? ⟨G, 0, none⟩ = some (.int .i8 x0) := cell_of_row _ _ 0 _ _ _ HG4.out
            have d1 : w4.cell? ⟨G, 1, none⟩ = some (.int .i8 x1) := cell_of_row _ _ 1 _ _ _ HG4.out
            have lG := blk_lt HG4.out
            cases o0 with
            | false =>
              obtain ⟨rfl, rfl⟩ := HA.out.no (sz_no hl0 Hx.out (fun q hq h => by have h2 := (HOF.out q hq h).1; cases h2))
              have Tx := T4.out
              clear HA HOF HBK
              go_wp2
              exact bodyPost_ret (v := .tuple #[.slice (some ⟨w4.heap.size, 0, none⟩) 0 0, .int .i64 5]) (by simp [results, Tryd.results22, go_sem]) rfl ⟨_, rfl, .empty _ _ rfl, kAlloc Tx _⟩
            | true =>
              cases o1 with
              | false =>
                obtain ⟨rfl, rfl⟩ := HA.out.no (sz_no hl0 Hx.out (fun q hq h => by have h2 := (HOF.out q hq h).2.1; cases h2))
                have Tx := T4.out
                clear HA HOF HBK
                go_wp2
                exact bodyPost_ret (v := .tuple #[.slice (some ⟨w4.heap.size, 0, none⟩) 0 0, .int .i64 5]) (by simp [results, Tryd.results22, go_sem]) rfl ⟨_, rfl, .empty _ _ rfl, kAlloc Tx _⟩
              | true =>
                obtain ⟨R, hR⟩ : ∃ R, spanB ⟨x0, x1⟩ = R := ⟨_, rfl⟩
                have HSB := Lib.hid (l06Span_any ⟨x0, x1⟩ w4 ⟨wfX_i8 (n := x0) (by omega), wfX_i8 (n := x1) (by omega)⟩ R hR)
                have HRR := Lib.hid hR
                clear hR
                go_wp2_with fail
                refine HSB.out.mono ?_
                rintro e w5 ⟨rfl, hb5⟩
                have K5 := Lib.hid hb5
                have T5 := Lib.hid (kTrans T4.out hb5)
                have b5 := blk_below HG4.out hb5
                have HG5 := Lib.hid b5
                clear HSB hb5 d0 d1 b5
                cases R with
                | false =>
                  obtain ⟨rfl, rfl⟩ := HA.out.no (sz_no hl0 Hx.out (fun q hq h => by
                    obtain ⟨_, _, e0, e1⟩ := HOF.out q hq h
                    have h2 := sqIn_iff.2 hq
                    have h3 := HRR.out
                    rw [e0, e1] at h3
                    rw [show (⟨q.low, q.high⟩ : Sq) = q from rfl, h2] at h3
                    cases h3))
                  have Tx := T5.out
                  clear HA HOF HBK
                  go_wp2
                  exact bodyPost_ret (v := .tuple #[.slice (some ⟨w5.heap.size, 0, none⟩) 0 0, .int .i64 5]) (by simp [results, Tryd.results22, go_sem]) rfl ⟨_, rfl, .empty _ _ rfl, kAlloc Tx _⟩
                | true =>
                  have HIN := Lib.hid (show ∀ p ∈ A ++ [(⟨x0, x1⟩ : Sq)], sqIn p from fun p hp => by
                    rcases List.mem_append.1 hp with hp | hp
                    · exact HIn.out p hp
                    · rw [List.mem_singleton.1 hp]; exact sqIn_iff.1 HRR.out)
                  have HWN := Lib.hid (sz_more HWd.out (p := ⟨x0, x1⟩) (by rw [Hx.out, HBK.out (by trivial) (by trivial)]))
                  have K35 := Lib.hid (kTrans HB3.out (kTrans K34.out K5.out))
                  have Own5 := Lib.hid (owns_below hown.out K35.out)
                  have Hblk := Lib.hid (owns_block Own5.out)
                  have HST5 := Lib.hid (HST.out.below K35.out hg.out)
                  have hg5 := Lib.hid (Nat.lt_of_lt_of_le hg.out K35.out.size)
                  have d0 : w5.cell? ⟨G, 0, none⟩ = some (.int .i8 x0) := cell_of_row _ _ 0 _ _ _ HG5.out
                  have d1 : w5.cell? ⟨G, 1, none⟩ = some (.int .i8 x1) := cell_of_row _ _ 1 _ _ _ HG5.out
                  have lG5 := blk_lt HG5.out
                  have hz5 := T5.out.size
                  have hBw5 : B ≤ w5.heap.size := by have := HBe.out; omega
                  have hA2 : A.length ≤ 60 := by have := HCc.out; omega
                  obtain ⟨y, ys, hy⟩ : ∃ y ys, flatSq (A ++ [(⟨x0, x1⟩ : Sq)]) = .int .i8 y :: ys := by
                    cases A with
                    | nil => exact ⟨_, _, rfl⟩
                    | cons p t => exact ⟨_, _, rfl⟩
                  have HY := Lib.hid hy
                  have Hx0 := Lib.hid (show (spl 32 l)[0]? = some ((spl 32 l).headD []) from by
                    obtain ⟨x, r, h⟩ := spl_some 32 l
                    rw [h]; rfl)
                  clear HOF HBK HRR Hx HIn HWd hown HST hg K35 K5 T4 K34 HG4 T3 HB3 hBl hy
                  go_wp2_with (at_builtin; refine wpList_append_own _ rfl _ _ 42 rfl B 89 j0 _ 2 2 Tryd.underlying42 Hj.out Hj1.out Hj2.out Hj3.out rfl (by decide) (.slice va A.length vc) A.length (flatSq A) rfl (owns_below Own5.out (by repeat (first | with_reducible exact Below.refl _ _ | (with_reducible refine kSet ?_ ?hB _; case hB => (simp; try omega)) | with_reducible refine kAlloc ?_ _ | with_reducible refine Below.drew ?_ | with_reducible refine kDrewN ?_ _ | with_reducible refine kTrans ?_ (by assumption)))) ⟨w5.heap.size, 0, none⟩ 1 1 [.int .i8 x0, .int .i8 x1] rfl rfl (World.news_of_block (cs := #[.int .i8 x0, .int .i8 x1]) (heap_alloc_new _ _)) (by simp [Value.oneCell']) ?qc4 ?qc5 ?qc6 ?_)
                  case qc4 => unfold maxLen; omega
                  case qc5 => omega
                  case qc6 => simp; omega
                  intro v7 w7 hown7 hgr7 hnil
                  obtain ⟨vb, vd, rfl⟩ := owns_slice hown7
                  have k6 : Below w5.heap.size w5 (w5.alloc (.cells #[.int .i8 x0, .int .i8 x1] 89)) := kAlloc (Below.refl _ _) _
                  have hB7 : Below w.heap.size w w7 := (kTrans T5.out k6).grown hgr7 (kTrans T5.out k6).size (by intro q hq; have := (Hblk.out q hq).1; have := HBe.out; omega)
                  have hal : (A ++ [(⟨x0, x1⟩ : Sq)]).length = A.length + 1 := by rw [List.length_append]; rfl
                  have hgb : w7.heap[g]? = w5.heap[g]? := (hgr7.block g (Nat.lt_of_lt_of_le hg5.out k6.size) (fun e => hne.out e.symm)).trans (k6.block g hg5.out)
                  have hst7 : StAt w7 g 0 (spl 32 l) := fun j x hx => by
                    have h := HST5.out j x hx
                    unfold World.cell? at h ⊢
                    simp only at h ⊢
                    rw [hgb]; exact h
                  have hg7 : g < w7.heap.size := Nat.lt_of_lt_of_le (Nat.lt_of_lt_of_le hg5.out k6.size) hgr7.size
                  have Own8 := Lib.hid (show w7.ownsRow B 89 2 (.slice vb (A ++ [(⟨x0, x1⟩ : Sq)]).length vd) (A ++ [(⟨x0, x1⟩ : Sq)]).length (flatSq (A ++ [(⟨x0, x1⟩ : Sq)])) by rw [hal, flatSq_end]; exact hown7)
                  have hne7 := Lib.hid (show (Value.slice vb (A ++ [(⟨x0, x1⟩ : Sq)]).length vd).ownBlock ≠ some g from by
                    have h := Own8.out
                    rw [HY.out, hal] at h
                    rw [hal]
                    exact own_notS h (by have h2 := hst7 0 _ Hx0.out; rwa [Nat.zero_add] at h2))
                  have HST7 := Lib.hid hst7
                  have hg77 := Lib.hid hg7
                  have HB8 := Lib.hid hB7
                  have hal3 : Hid (c + 1 = (A ++ [(⟨x0, x1⟩ : Sq)]).length) := Lib.hid (by rw [hal, HCc.out])
                  have hal4 := Lib.hid hal
                  clear hal hown7 hgr7 hnil hB7 k6 Own5 Hblk d0 d1 hgb hst7 hg7 HST5 HY hne
                  go_wp2
                  exact ⟨⟨A ++ [⟨x0, x1⟩], vb, vd, c + 1, by omega, by omega, hal3, by rw [hal4.out], by go_num, HWN, HIN, Own8, HST7, hg77, hne7, HB8⟩, by simp [intOf]; omega⟩
        · obtain ⟨rfl, rfl⟩ := HA.out.no (sz_no hl0 Hx.out (fun q hq h => h3 (by rw [← hn3, h, spW_words]; rfl)))
          have e6 : ¬ ((n3 : Nat) : Int) = 2 := by omega
          have Tx := T3.out
          clear HA hn3 hst3
          go_wp2
          exact bodyPost_ret (v := .tuple #[.slice (some ⟨w3.heap.size, 0, none⟩) 0 0, .int .i64 5]) (by simp [results, Tryd.results22, go_sem]) rfl ⟨_, rfl, .empty _ _ rfl, kAlloc Tx _⟩
      · obtain rfl : c = N := by omega
        have hAN : A.length = (spl 32 l).length := by rw [HN.out]; exact HCc.out.symm
        have hok : szOk A = true := by
          unfold szOk
          have h1 : A.length ≤ 60 := by have := HCc.out; omega
          have h2 : spansB A = true := List.all_eq_true.2 (fun p hp => sqIn_iff.2 (HIn.out p hp))
          rw [h2, decide_eq_true h1]; rfl
        obtain ⟨rfl, rfl⟩ := HA.out.yes hok (sz_all hAN HWd.out)
        have HO4 := Lib.hid ((SlWSq.of_owns (n := L.length) (l := L) hown.out))
        have T4 := hBl.out
        have hBe := HBe.out
        clear HA HIn HWd hown HST hne hAN hok
        go_wp2
        exact bodyPost_ret (v := .tuple #[.slice va L.length vc, .int .i64 0]) (by simp [results, Tryd.results22, go_sem]) rfl ⟨_, rfl, HO4.out.mono (by omega) (Nat.le_refl _), T4⟩
end Go.Proofs.YthngnbaoaeomeaaDoor
