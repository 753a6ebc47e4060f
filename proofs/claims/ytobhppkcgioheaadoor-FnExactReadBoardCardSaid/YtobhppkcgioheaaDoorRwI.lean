/- ReadWay: the program. -/
import Derived.Test.YtobhppkcgioheaaDoorRw0
import Derived.Deep.DeepCutAuto
import Derived.StillTailTactics
namespace Go.Proofs.YtobhppkcgioheaaDoor
open Go.ChangeShapes Go.WideShapes Go.ChangeAt Go.RowKit Go.Joins Go.Deep
set_option linter.unusedVariables false
set_option linter.unusedSimpArgs false

theorem eqL {S T : ByteArray} {a b : List UInt8} (hS : bsT a = S) (hT : bsT b = T) (h : a = b) : S.toList = T.toList ∧ (S.toList == T.toList) = true ∧ (!(S.toList == T.toList)) = false := by
  have e : S.toList = T.toList := by rw [← hS, ← hT, h]
  have e2 : (S.toList == T.toList) = true := by rw [e]; exact beq_self_eq_true _
  exact ⟨e, e2, by rw [e2]; rfl⟩
theorem neL {S T : ByteArray} {a b : List UInt8} (hS : bsT a = S) (hT : bsT b = T) (h : a ≠ b) : ¬ S.toList = T.toList ∧ (S.toList == T.toList) = false ∧ (!(S.toList == T.toList)) = true := by
  have e : ¬ S.toList = T.toList := by rw [← hS, ← hT, toL_bsT, toL_bsT]; exact h
  have e2 : (S.toList == T.toList) = false := beq_eq_false_iff_ne.2 e
  exact ⟨e, e2, by rw [e2]; rfl⟩
/-- what parseWay leaves -/
def PwP (l : List UInt8) (w : World) (e : Ending) (w' : World) : Prop :=
  ∃ p ok, e = .returned (.tuple #[.agg #[.int .i8 p.fx, .int .i8 p.fy, .int .i8 p.sd, .int .i8 p.tx, .int .i8 p.ty, .int .i8 p.ot], .bool ok]) ∧ Wy.in8 p ∧ (ok = true → l ≠ []) ∧ (∀ q, wyPlain q = true → wyL q = l → ok = true ∧ p = q) ∧ Below w.heap.size w w'
theorem pw_fail {l : List UInt8} {w w' : World} {e : Ending} (h1 : e = .returned (.tuple #[.agg #[.int .i8 0, .int .i8 0, .int .i8 0, .int .i8 0, .int .i8 0, .int .i8 0], .bool false])) (h2 : ∀ q, wyPlain q = true → wyL q ≠ l) (h3 : Below w.heap.size w w') : PwP l w e w' :=
  ⟨wyZ, false, h1, by unfold Wy.in8 i8 wyZ; simp, (fun h => by cases h), fun q h4 h5 => absurd h5 (h2 q h4), h3⟩
set_option maxRecDepth 100000 in
set_option maxHeartbeats 8000000 in
theorem parseWay_any (l : List UInt8) (w : World) (hl : l.length ≤ 1048576) (hE : ErrAt w) (hst : SideAt w) : Calls Tryd.prog 46 #[.string (bsT l)] w (PwP l w) := by
  obtain ⟨W0, hW⟩ : ∃ W0, w.alloc (.cells #[.int .i8 0, .int .i8 0, .int .i8 0, .int .i8 0, .int .i8 0, .int .i8 0] 26) = W0 := ⟨_, rfl⟩
  have k0 : Below w.heap.size w W0 := by rw [← hW]; exact kAlloc (Below.refl _ _) _
  have bR : W0.heap[w.heap.size]? = some (.cells #[.int .i8 0, .int .i8 0, .int .i8 0, .int .i8 0, .int .i8 0, .int .i8 0] 26 (0, 0)) := by rw [← hW]; exact heap_alloc_new _ _
  have lR := blk_lt bR
  obtain ⟨X, hX⟩ : ∃ X, w.heap.size = X := ⟨_, rfl⟩
  rw [hX] at bR lR
  obtain ⟨n, hn⟩ : ∃ n, (spl 32 l).length = n := ⟨_, rfl⟩
  have hnl : n ≤ 1048577 := by have := spl_length 32 l; omega
  have HBR := Lib.hid (fun W2 (h2 : Below W0.heap.size W0 W2) => blk_below bR h2)
  have HKW := Lib.hid (fun W2 (h2 : Below W0.heap.size W0 W2) => kTrans k0 h2)
  have HER := Lib.hid (fun W2 (h2 : Below W0.heap.size W0 W2) => hE.below (kTrans k0 h2))
  have HSI := Lib.hid (fun W2 (h2 : Below W0.heap.size W0 W2) => hst.below (kTrans k0 h2))
  have HSP := Lib.hid (split_any l 32 W0 (by omega) n hn)
  have HSH := Lib.hid (fun x (hx : x ∈ spl 32 l) => (by have := spl_short 32 l x hx; omega : x.length ≤ 2000000))
  have HW := Lib.hid hW
  have HX := Lib.hid hX
  have Hn := Lib.hid hn
  clear hW k0 bR hX hE hst hn hl
  go_enter Tryd.func46, Tryd.ntmps46
  go_upto_region 1 with fail
  try rw [HW.out]
  try rw [HX.out]
  clear HW
  go_wp2_with fail
  refine HSP.out.mono ?_
  rintro e w1 ⟨rfl, hrow, hb1⟩
  have K1 := Lib.hid hb1
  obtain ⟨g, hg⟩ : ∃ g, W0.heap.size = g := ⟨_, rfl⟩
  rw [hg] at hrow ⊢
  have lg := blk_lt hrow
  have hst := StAt.of hrow
  have HST := Lib.hid (fun W2 (h2 : Below w1.heap.size w1 W2) => hst.below h2 lg)
  have n1 := hb1.size
  clear HSP hst hb1 hrow hg
  by_cases h6 : n = 6
  · subst h6
    obtain ⟨a0, a1, a2, a3, a4, a5, hws⟩ := six Hn.out
    have HWS := Lib.hid hws
    have HS1 := Lib.hid (fun W2 (h2 : Below w1.heap.size w1 W2) => parseSmalls2_any g 0 6 2 2 [a0, a1] W2 rfl (by have h := (HST.out W2 h2).take 2; rw [hws] at h; exact h) (Nat.lt_of_lt_of_le lg h2.size) (by omega) (fun x hx => HSH.out x (by rw [hws]; simp only [List.mem_cons, List.not_mem_nil, or_false] at hx ⊢; rcases hx with rfl | rfl <;> simp)) (by omega) (HER.out W2 (kTrans K1.out h2)))
    have HS2 := Lib.hid (fun W2 (h2 : Below w1.heap.size w1 W2) => parseSmalls2_any g 3 3 2 2 [a3, a4] W2 rfl (by have h := ((HST.out W2 h2).drop 3).take 2; rw [hws] at h; exact h) (Nat.lt_of_lt_of_le lg h2.size) (by omega) (fun x hx => HSH.out x (by rw [hws]; simp only [List.mem_cons, List.not_mem_nil, or_false] at hx ⊢; rcases hx with rfl | rfl <;> simp)) (by omega) (HER.out W2 (kTrans K1.out h2)))
    have HN1 := Lib.hid (fun W2 (h2 : Below w1.heap.size w1 W2) => sideNamed2_any a2 W2 (HSI.out W2 (kTrans K1.out h2)))
    have HN2 := Lib.hid (fun W2 (h2 : Below w1.heap.size w1 W2) => sideNamed2_any a5 W2 (HSI.out W2 (kTrans K1.out h2)))
    have Q2 := Lib.hid (fun W2 (h2 : Below w1.heap.size w1 W2) => (by have h := HST.out W2 h2 2 a2 (by rw [hws]; rfl); rwa [Nat.zero_add] at h : W2.cell? ⟨g, 2, none⟩ = some (.string (bsT a2))))
    have Q5 := Lib.hid (fun W2 (h2 : Below w1.heap.size w1 W2) => (by have h := HST.out W2 h2 5 a5 (by rw [hws]; rfl); rwa [Nat.zero_add] at h : W2.cell? ⟨g, 5, none⟩ = some (.string (bsT a5))))
    clear hws HST HSH HER HSI
    go_wp2_with fail
    refine (HS1.out w1 (Below.refl _ _)).mono ?_
    rintro e w2 ⟨v1, ok1, rfl, hr1, hb2⟩
    have J2 := Lib.hid hb2
    have HR1 := Lib.hid hr1
    have lg2 := Nat.lt_of_lt_of_le lg hb2.size
    have q2 := Q2.out w2 hb2
    clear hr1 hb2
    go_wp2_with fail
    refine (HN1.out w2 J2.out).mono ?_
    rintro e w' ⟨k1, ok2, rfl, hr2, h⟩
    obtain rfl : w2 = w' := h
    have HR2 := Lib.hid hr2
    clear hr2 q2
    go_wp2_with fail
    refine (HS2.out w2 J2.out).mono ?_
    rintro e w3 ⟨v3, ok3, rfl, hr3, hb3⟩
    have J3 := Lib.hid (kTrans J2.out hb3)
    have HR1b := Lib.hid (HR1.out.below hb3)
    have HR3 := Lib.hid hr3
    have lg3 := Nat.lt_of_lt_of_le lg2 hb3.size
    have q5 := Q5.out w3 J3.out
    clear hr3 hb3 HR1
    go_wp2_with fail
    refine (HN2.out w3 J3.out).mono ?_
    rintro e w' ⟨k2, ok4, rfl, hr4, h⟩
    obtain rfl : w3 = w' := h
    have HR4 := Lib.hid hr4
    have K3 := Lib.hid (kTrans K1.out J3.out)
    have rs_ := HBR.out _ K3.out
    have HB := Lib.hid (HKW.out _ K3.out)
    have hXw : w.heap.size ≤ X := by have := HX.out; omega
    clear hr4 q5 HS1 HS2 HN1 HN2 Q2 Q5 K1
    have HNO := Lib.hid (fun (h : ¬ (ok1 = true ∧ ok2 = true ∧ ok3 = true ∧ ok4 = true)) => (show ∀ q, wyPlain q = true → wyL q ≠ l from fun q hq hl => h (by
      obtain ⟨e0, e1, e2, e3, e4, e5⟩ := rw_split HWS.out hl
      have hb := wyIn hq
      refine ⟨?_, ?_, ?_, ?_⟩
      · rcases HR1b.out with ⟨a, _⟩ | ⟨_, a⟩
        · exact a
        · exact absurd ⟨by rw [e0, e1]; rfl, rfl, fun x hx => by simp at hx; omega⟩ (a [q.fx, q.fy])
      · rcases HR2.out.2 with ⟨a, _⟩ | ⟨_, a⟩
        · exact a
        · exact absurd (by rw [e2]; congr 1; omega) (a q.sd.toNat (by omega))
      · rcases HR3.out with ⟨a, _⟩ | ⟨_, a⟩
        · exact a
        · exact absurd ⟨by rw [e3, e4]; rfl, rfl, fun x hx => by simp at hx; omega⟩ (a [q.tx, q.ty])
      · rcases HR4.out.2 with ⟨a, _⟩ | ⟨_, a⟩
        · exact a
        · exact absurd (by rw [e5]; congr 1; omega) (a q.ot.toNat (by omega)))))
    cases ok1 with
    | false =>
      have HF := Lib.hid (HNO.out (fun h => by cases h.1))
      clear HNO HR1b HR2 HR3 HR4
      go_wp2_with (refine wpList_store_row rfl 26 _ _ rfl X #[.int .i8 0, .int .i8 0, .int .i8 0, .int .i8 0, .int .i8 0, .int .i8 0] rfl rfl 26 _ rs_ (by kernel_rfl) (by kernel_rfl) (by kernel_rfl) ?_)
      refine bodyPost_ret (v := .tuple #[.agg #[.int .i8 0, .int .i8 0, .int .i8 0, .int .i8 0, .int .i8 0, .int .i8 0], .bool false]) (results_cell_tmp rfl _ _ X 26 #[.int .i8 0, .int .i8 0, .int .i8 0, .int .i8 0, .int .i8 0, .int .i8 0] (0, 0) _ _ rfl rfl (setRow_heap _ _ _ _ _ _ rs_) Tryd.underlying26 rfl (by kernel_rfl)) rfl ?_
      exact pw_fail rfl HF.out (kRowW HB.out hXw _)
    | true =>
      cases ok2 with
      | false =>
        have HF := Lib.hid (HNO.out (fun h => by cases h.2.1))
        clear HNO HR1b HR2 HR3 HR4
        go_wp2_with (refine wpList_store_row rfl 26 _ _ rfl X #[.int .i8 0, .int .i8 0, .int .i8 0, .int .i8 0, .int .i8 0, .int .i8 0] rfl rfl 26 _ rs_ (by kernel_rfl) (by kernel_rfl) (by kernel_rfl) ?_)
        refine bodyPost_ret (v := .tuple #[.agg #[.int .i8 0, .int .i8 0, .int .i8 0, .int .i8 0, .int .i8 0, .int .i8 0], .bool false]) (results_cell_tmp rfl _ _ X 26 #[.int .i8 0, .int .i8 0, .int .i8 0, .int .i8 0, .int .i8 0, .int .i8 0] (0, 0) _ _ rfl rfl (setRow_heap _ _ _ _ _ _ rs_) Tryd.underlying26 rfl (by kernel_rfl)) rfl ?_
        exact pw_fail rfl HF.out (kRowW HB.out hXw _)
      | true =>
        cases ok3 with
        | false =>
          have HF := Lib.hid (HNO.out (fun h => by cases h.2.2.1))
          clear HNO HR1b HR2 HR3 HR4
          go_wp2_with (refine wpList_store_row rfl 26 _ _ rfl X #[.int .i8 0, .int .i8 0, .int .i8 0, .int .i8 0, .int .i8 0, .int .i8 0] rfl rfl 26 _ rs_ (by kernel_rfl) (by kernel_rfl) (by kernel_rfl) ?_)
          refine bodyPost_ret (v := .tuple #[.agg #[.int .i8 0, .int .i8 0, .int .i8 0, .int .i8 0, .int .i8 0, .int .i8 0], .bool false]) (results_cell_tmp rfl _ _ X 26 #[.int .i8 0, .int .i8 0, .int .i8 0, .int .i8 0, .int .i8 0, .int .i8 0] (0, 0) _ _ rfl rfl (setRow_heap _ _ _ _ _ _ rs_) Tryd.underlying26 rfl (by kernel_rfl)) rfl ?_
          exact pw_fail rfl HF.out (kRowW HB.out hXw _)
        | true =>
          cases ok4 with
          | false =>
            have HF := Lib.hid (HNO.out (fun h => by cases h.2.2.2))
            clear HNO HR1b HR2 HR3 HR4
            go_wp2_with (refine wpList_store_row rfl 26 _ _ rfl X #[.int .i8 0, .int .i8 0, .int .i8 0, .int .i8 0, .int .i8 0, .int .i8 0] rfl rfl 26 _ rs_ (by kernel_rfl) (by kernel_rfl) (by kernel_rfl) ?_)
            refine bodyPost_ret (v := .tuple #[.agg #[.int .i8 0, .int .i8 0, .int .i8 0, .int .i8 0, .int .i8 0, .int .i8 0], .bool false]) (results_cell_tmp rfl _ _ X 26 #[.int .i8 0, .int .i8 0, .int .i8 0, .int .i8 0, .int .i8 0, .int .i8 0] (0, 0) _ _ rfl rfl (setRow_heap _ _ _ _ _ _ rs_) Tryd.underlying26 rfl (by kernel_rfl)) rfl ?_
            exact pw_fail rfl HF.out (kRowW HB.out hXw _)
          | true =>
            obtain ⟨g1, F1, rfl, hm1, _, hf1, hs1⟩ : ∃ g F, v1 = .slice (some ⟨g, 0, none⟩) 2 2 ∧ MRow w3 g 2 F ∧ w1.heap.size ≤ g ∧ (∀ i, i < 2 → -128 ≤ F i ∧ F i ≤ 127) ∧ (∀ vs, Smalls vs [a0, a1] 2 → ∀ i, i < 2 → vs.getD i 0 = F i) := by
              rcases HR1b.out with ⟨_, h⟩ | ⟨h, _⟩
              · exact h
              · cases h
            obtain ⟨g3, F3, rfl, hm3, _, hf3, hs3⟩ : ∃ g F, v3 = .slice (some ⟨g, 0, none⟩) 2 2 ∧ MRow w3 g 2 F ∧ w2.heap.size ≤ g ∧ (∀ i, i < 2 → -128 ≤ F i ∧ F i ≤ 127) ∧ (∀ vs, Smalls vs [a3, a4] 2 → ∀ i, i < 2 → vs.getD i 0 = F i) := by
              rcases HR3.out with ⟨_, h⟩ | ⟨h, _⟩
              · exact h
              · cases h
            have hk1 : -128 ≤ k1 ∧ k1 ≤ 127 := by have := HR2.out.1; omega
            have hk2 : -128 ≤ k2 ∧ k2 ≤ 127 := by have := HR4.out.1; omega
            have hP := Lib.hid (show ∀ q, wyPlain q = true → wyL q = l → (⟨F1 0, F1 1, k1, F3 0, F3 1, k2⟩ : Wy) = q from fun q hq hl => by
              obtain ⟨e0, e1, e2, e3, e4, e5⟩ := rw_split HWS.out hl
              have hb := wyIn hq
              have s1 : Smalls [q.fx, q.fy] [a0, a1] 2 := ⟨by rw [e0, e1]; rfl, rfl, fun x hx => by simp at hx; omega⟩
              have s3 : Smalls [q.tx, q.ty] [a3, a4] 2 := ⟨by rw [e3, e4]; rfl, rfl, fun x hx => by simp at hx; omega⟩
              have f0 : q.fx = F1 0 := hs1 _ s1 0 (by omega)
              have f1 : q.fy = F1 1 := hs1 _ s1 1 (by omega)
              have f3 : q.tx = F3 0 := hs3 _ s3 0 (by omega)
              have f4 : q.ty = F3 1 := hs3 _ s3 1 (by omega)
              have f2 : k1 = q.sd := by
                rcases HR2.out.2 with ⟨_, a⟩ | ⟨a, _⟩
                · exact side_eq (by rcases HR2.out.1 with h | h <;> omega) (by omega) (a.symm.trans e2)
                · cases a
              have f5 : k2 = q.ot := by
                rcases HR4.out.2 with ⟨_, a⟩ | ⟨a, _⟩
                · exact side_eq (by rcases HR4.out.1 with h | h <;> omega) (by omega) (a.symm.trans e5)
                · cases a
              obtain ⟨b0, b1, b2, b3, b4, b5⟩ := q
              simp only at f0 f1 f2 f3 f4 f5
              rw [f0, f1, f2, f3, f4, f5])
            have hIn : Hid (Wy.in8 ⟨F1 0, F1 1, k1, F3 0, F3 1, k2⟩) := Lib.hid (by
              have b0 := hf1 0 (by omega); have b1 := hf1 1 (by omega); have b3 := hf3 0 (by omega); have b4 := hf3 1 (by omega)
              exact ⟨b0, b1, hk1, b3, b4, hk2⟩)
            have hNE : Hid (l ≠ []) := Lib.hid (fun h => by have h2 := HWS.out; rw [h] at h2; cases h2)
            have c0 := hm1.at_ 0 (by omega)
            have c1 := hm1.at_ 1 (by omega)
            have c3 := hm3.at_ 0 (by omega)
            have c4 := hm3.at_ 1 (by omega)
            have l1_ := hm1.lt
            have l3_ := hm3.lt
            obtain ⟨x0, h0⟩ : ∃ x, F1 0 = x := ⟨_, rfl⟩
            obtain ⟨x1, h1⟩ : ∃ x, F1 1 = x := ⟨_, rfl⟩
            obtain ⟨x3, h3⟩ : ∃ x, F3 0 = x := ⟨_, rfl⟩
            obtain ⟨x4, h4⟩ : ∃ x, F3 1 = x := ⟨_, rfl⟩
            rw [h0] at c0 hP hIn
            rw [h1] at c1 hP hIn
            rw [h3] at c3 hP hIn
            rw [h4] at c4 hP hIn
            clear HNO HR1b HR2 HR3 HR4 hm1 hm3 hf1 hf3 hs1 hs3 h0 h1 h3 h4 rs_ HB HWS
            go_wp2_with fail
            go_still_tail 17, (by kernel_rfl)
            change wpList _ _ _ _ _ w3.drew
            have rs_ := HBR.out w3.drew (Below.drew K3.out)
            have HB := Lib.hid (HKW.out w3.drew (Below.drew K3.out))
            go_wp2_with (refine wpList_store_row rfl 26 _ _ rfl X #[.int .i8 x0, .int .i8 x1, .int .i8 k1, .int .i8 x3, .int .i8 x4, .int .i8 k2] rfl rfl 26 _ rs_ (by kernel_rfl) (by kernel_rfl) (by kernel_rfl) ?_)
            refine bodyPost_ret (v := .tuple #[.agg #[.int .i8 x0, .int .i8 x1, .int .i8 k1, .int .i8 x3, .int .i8 x4, .int .i8 k2], .bool true]) (results_cell_tmp rfl _ _ X 26 #[.int .i8 x0, .int .i8 x1, .int .i8 k1, .int .i8 x3, .int .i8 x4, .int .i8 k2] (0, 0) _ _ rfl rfl (setRow_heap _ _ _ _ _ _ rs_) Tryd.underlying26 rfl (by kernel_rfl)) rfl ?_
            exact ⟨⟨x0, x1, k1, x3, x4, k2⟩, true, rfl, hIn.out, fun _ => hNE.out, fun q h1 h2 => ⟨rfl, hP.out q h1 h2⟩, kRowW HB.out hXw _⟩
  · have HF := Lib.hid (rw_len (by rw [Hn.out]; exact h6))
    have e6 : ¬ ((n : Nat) : Int) = 6 := by omega
    have rs_ := HBR.out _ K1.out
    have HB := Lib.hid (HKW.out _ K1.out)
    have hXw : w.heap.size ≤ X := by have := HX.out; omega
    clear Hn HSH
    go_wp2_with (refine wpList_store_row rfl 26 _ _ rfl X #[.int .i8 0, .int .i8 0, .int .i8 0, .int .i8 0, .int .i8 0, .int .i8 0] rfl rfl 26 _ rs_ (by kernel_rfl) (by kernel_rfl) (by kernel_rfl) ?_)
    refine bodyPost_ret (v := .tuple #[.agg #[.int .i8 0, .int .i8 0, .int .i8 0, .int .i8 0, .int .i8 0, .int .i8 0], .bool false]) (results_cell_tmp rfl _ _ X 26 #[.int .i8 0, .int .i8 0, .int .i8 0, .int .i8 0, .int .i8 0, .int .i8 0] (0, 0) _ _ rfl rfl (setRow_heap _ _ _ _ _ _ rs_) Tryd.underlying26 rfl (by kernel_rfl)) rfl ?_
    exact pw_fail rfl HF.out (kRowW HB.out hXw _)
set_option maxRecDepth 100000 in
set_option maxHeartbeats 4000000 in
theorem implReadWay_any (l : List UInt8) (w : World) (hl : l.length ≤ 1048576) (hE : ErrAt w) (hst : SideAt w) (p : Wy) (C : Int) (hA : RwA l p C) :
    Calls Tryd.prog 11 #[.string (bsT l)] w fun e w' => e = .returned (.tuple #[.agg #[.int .i8 p.fx, .int .i8 p.fy, .int .i8 p.sd, .int .i8 p.tx, .int .i8 p.ty, .int .i8 p.ot], .int .i64 C]) ∧ Below w.heap.size w w' := by
  obtain ⟨W0, hW⟩ : ∃ W0, w.alloc (.cells #[.int .i8 0, .int .i8 0, .int .i8 0, .int .i8 0, .int .i8 0, .int .i8 0] 26) = W0 := ⟨_, rfl⟩
  have k0 : Below w.heap.size w W0 := by rw [← hW]; exact kAlloc (Below.refl _ _) _
  have bR : W0.heap[w.heap.size]? = some (.cells #[.int .i8 0, .int .i8 0, .int .i8 0, .int .i8 0, .int .i8 0, .int .i8 0] 26 (0, 0)) := by rw [← hW]; exact heap_alloc_new _ _
  have lR := blk_lt bR
  obtain ⟨X, hX⟩ : ∃ X, w.heap.size = X := ⟨_, rfl⟩
  rw [hX] at bR lR
  have HBR := Lib.hid (fun W2 (h2 : Below W0.heap.size W0 W2) => blk_below bR h2)
  have HKW := Lib.hid (fun W2 (h2 : Below W0.heap.size W0 W2) => kTrans k0 h2)
  have HSI := Lib.hid (fun W2 (h2 : Below W0.heap.size W0 W2) => hst.below (kTrans k0 h2))
  have HPW := Lib.hid (parseWay_any l W0 hl (hE.below k0) (hst.below k0))
  have hXw : w.heap.size ≤ X := by omega
  obtain ⟨S, hS⟩ : ∃ S, bsT l = S := ⟨_, rfl⟩
  rw [hS] at HPW ⊢
  have HW := Lib.hid hW
  have HX := Lib.hid hX
  have HA := Lib.hid hA
  have HS := Lib.hid hS
  clear hW k0 bR hX hE hst hl hA hS
  go_enter Tryd.func11, Tryd.ntmps11
  go_upto_region 1 with fail
  try rw [HW.out]
  try rw [HX.out]
  clear HW
  go_wp2_with fail
  refine HPW.out.mono ?_
  rintro e w1 ⟨q, ok, rfl, h8, hne, hq, hb1⟩
  obtain ⟨W1, hW1⟩ : ∃ z, w1.alloc (.cells #[.int .i8 q.fx, .int .i8 q.fy, .int .i8 q.sd, .int .i8 q.tx, .int .i8 q.ty, .int .i8 q.ot] 26) = z := ⟨_, rfl⟩
  have kA : Below w1.heap.size w1 W1 := by rw [← hW1]; exact kAlloc (Below.refl _ _) _
  have bQ : W1.heap[w1.heap.size]? = some (.cells #[.int .i8 q.fx, .int .i8 q.fy, .int .i8 q.sd, .int .i8 q.tx, .int .i8 q.ty, .int .i8 q.ot] 26 (0, 0)) := by rw [← hW1]; exact heap_alloc_new _ _
  obtain ⟨Q, hQ⟩ : ∃ Q, w1.heap.size = Q := ⟨_, rfl⟩
  rw [hQ] at bQ
  have K1 := Lib.hid (kTrans hb1 kA)
  have HQ8 := Lib.hid h8
  have HNE := Lib.hid hne
  have HQQ := Lib.hid hq
  have lQ := blk_lt bQ
  have n1 := K1.out.size
  have HBQ := Lib.hid (fun W2 (h2 : Below W1.heap.size W1 W2) => blk_below bQ h2)
  have HW1 := Lib.hid hW1
  have HQe := Lib.hid hQ
  have rs_ := HBR.out _ K1.out
  have HB := Lib.hid (HKW.out _ K1.out)
  clear HPW hb1 kA bQ h8 hne hq hW1 hQ
  go_upto_region 2 with fail
  try rw [HW1.out]
  try rw [HQe.out]
  clear HW1 HQe
  cases ok with
  | false =>
    obtain ⟨rfl, rfl⟩ := HA.out.no (fun q2 h1 h2 => by have h3 := (HQQ.out q2 h1 h2).1; cases h3)
    clear HA HQQ
    go_wp2_with (refine wpList_store_row rfl 26 _ _ rfl X #[.int .i8 0, .int .i8 0, .int .i8 0, .int .i8 0, .int .i8 0, .int .i8 0] rfl rfl 26 _ rs_ (by kernel_rfl) (by kernel_rfl) (by kernel_rfl) ?_)
    refine bodyPost_ret (v := .tuple #[.agg #[.int .i8 0, .int .i8 0, .int .i8 0, .int .i8 0, .int .i8 0, .int .i8 0], .int .i64 5]) (results_cell_tmp rfl _ _ X 26 #[.int .i8 0, .int .i8 0, .int .i8 0, .int .i8 0, .int .i8 0, .int .i8 0] (0, 0) _ _ rfl rfl (setRow_heap _ _ _ _ _ _ rs_) Tryd.underlying26 rfl (by kernel_rfl)) rfl ?_
    exact ⟨rfl, kRowW HB.out hXw _⟩
  | true =>
    have bQ := HBQ.out W1 (Below.refl _ _)
    have c0 : W1.cell? ⟨Q, 0, none⟩ = some (.int .i8 q.fx) := cell_of_row _ _ 0 _ _ _ bQ
    have c1 : W1.cell? ⟨Q, 1, none⟩ = some (.int .i8 q.fy) := cell_of_row _ _ 1 _ _ _ bQ
    have c2 : W1.cell? ⟨Q, 2, none⟩ = some (.int .i8 q.sd) := cell_of_row _ _ 2 _ _ _ bQ
    have c3 : W1.cell? ⟨Q, 3, none⟩ = some (.int .i8 q.tx) := cell_of_row _ _ 3 _ _ _ bQ
    have c4 : W1.cell? ⟨Q, 4, none⟩ = some (.int .i8 q.ty) := cell_of_row _ _ 4 _ _ _ bQ
    have c5 : W1.cell? ⟨Q, 5, none⟩ = some (.int .i8 q.ot) := cell_of_row _ _ 5 _ _ _ bQ
    obtain ⟨T, hT⟩ : ∃ T, bsT (wyQ q) = T := ⟨_, rfl⟩
    have HT := Lib.hid hT
    have HTX := Lib.hid (implWayText_any q.fx q.fy q.sd q.tx q.ty q.ot W1 HQ8.out T hT (HSI.out _ K1.out))
    clear bQ hT rs_ HB
    go_wp2_with fail
    refine HTX.out.mono ?_
    rintro e w2 ⟨rfl, hb2⟩
    have K2 := Lib.hid (kTrans K1.out hb2)
    have rs_ := HBR.out _ K2.out
    have HB := Lib.hid (HKW.out _ K2.out)
    have bQ2 := HBQ.out w2 hb2
    clear HTX hb2 c0 c1 c2 c3 c4 c5
    by_cases he : wyQ q = l
    · have hpl : wyPlain q = true := by
        cases hp : wyPlain q with
        | true => rfl
        | false =>
          have h2 := HNE.out (by trivial)
          rw [← he] at h2
          unfold wyQ at h2
          rw [if_neg (by rw [hp]; decide)] at h2
          exact absurd rfl h2
      obtain ⟨rfl, rfl⟩ := HA.out.yes hpl (by unfold wyQ at he; rw [if_pos hpl] at he; exact he)
      obtain ⟨e1, e2, e3⟩ := eqL HT.out HS.out he
      have d0 : w2.cell? ⟨Q, 0, none⟩ = some (.int .i8 p.fx) := cell_of_row _ _ 0 _ _ _ bQ2
      have d1 : w2.cell? ⟨Q, 1, none⟩ = some (.int .i8 p.fy) := cell_of_row _ _ 1 _ _ _ bQ2
      have d2 : w2.cell? ⟨Q, 2, none⟩ = some (.int .i8 p.sd) := cell_of_row _ _ 2 _ _ _ bQ2
      have d3 : w2.cell? ⟨Q, 3, none⟩ = some (.int .i8 p.tx) := cell_of_row _ _ 3 _ _ _ bQ2
      have d4 : w2.cell? ⟨Q, 4, none⟩ = some (.int .i8 p.ty) := cell_of_row _ _ 4 _ _ _ bQ2
      have d5 : w2.cell? ⟨Q, 5, none⟩ = some (.int .i8 p.ot) := cell_of_row _ _ 5 _ _ _ bQ2
      have lq2 := blk_lt bQ2
      clear bQ2 he hpl
      go_wp2_with (refine wpList_store_row rfl 26 _ _ rfl X #[.int .i8 p.fx, .int .i8 p.fy, .int .i8 p.sd, .int .i8 p.tx, .int .i8 p.ty, .int .i8 p.ot] rfl rfl 26 _ rs_ (by kernel_rfl) (by kernel_rfl) (by kernel_rfl) ?_)
      refine bodyPost_ret (v := .tuple #[.agg #[.int .i8 p.fx, .int .i8 p.fy, .int .i8 p.sd, .int .i8 p.tx, .int .i8 p.ty, .int .i8 p.ot], .int .i64 0]) (results_cell_tmp rfl _ _ X 26 #[.int .i8 p.fx, .int .i8 p.fy, .int .i8 p.sd, .int .i8 p.tx, .int .i8 p.ty, .int .i8 p.ot] (0, 0) _ _ rfl rfl (setRow_heap _ _ _ _ _ _ rs_) Tryd.underlying26 rfl (by kernel_rfl)) rfl ?_
      exact ⟨rfl, kRowW HB.out hXw _⟩
    · obtain ⟨rfl, rfl⟩ := HA.out.no (fun q2 h1 h2 => by
        obtain ⟨_, h3⟩ := HQQ.out q2 h1 h2
        subst h3
        exact he (by unfold wyQ; rw [if_pos h1]; exact h2))
      obtain ⟨e1, e2, e3⟩ := neL HT.out HS.out he
      clear bQ2 he
      go_wp2_with (refine wpList_store_row rfl 26 _ _ rfl X #[.int .i8 0, .int .i8 0, .int .i8 0, .int .i8 0, .int .i8 0, .int .i8 0] rfl rfl 26 _ rs_ (by kernel_rfl) (by kernel_rfl) (by kernel_rfl) ?_)
      refine bodyPost_ret (v := .tuple #[.agg #[.int .i8 0, .int .i8 0, .int .i8 0, .int .i8 0, .int .i8 0, .int .i8 0], .int .i64 5]) (results_cell_tmp rfl _ _ X 26 #[.int .i8 0, .int .i8 0, .int .i8 0, .int .i8 0, .int .i8 0, .int .i8 0] (0, 0) _ _ rfl rfl (setRow_heap _ _ _ _ _ _ rs_) Tryd.underlying26 rfl (by kernel_rfl)) rfl ?_
      exact ⟨rfl, kRowW HB.out hXw _⟩
end Go.Proofs.YtobhppkcgioheaaDoor
