/- ReadBoard: the program's piece. -/
import Derived.Test.YtobhppkcgioheaaDoorRb1
import Derived.Test.YtobhppkcgioheaaDoorTrD
import Derived.Test.YtobhppkcgioheaaDoorRwI
import Derived.Lib.EndianMore
import Derived.Deep.DeepCutAuto
import Derived.StillTailTactics
namespace Go.Proofs.YtobhppkcgioheaaDoor
open Go.ChangeShapes Go.WideShapes Go.ChangeAt Go.RowKit Go.Joins Go.Deep
set_option linter.unusedVariables false
set_option linter.unusedSimpArgs false

theorem below_cells {B b : Nat} (hb : B ≤ b) : ∀ (vs : List Value) (o : Nat) (w a : World), Below B a w → Below B a (w.setCells b o vs)
  | [], _, _, _, h => h
  | v :: vs, o, w, a, h => below_cells hb vs (o + 1) (w.setCell ⟨b, o, none⟩ v) a (h.setCell hb v)
theorem delete5_any (g B : Nat) (a0 a1 a2 a3 a4 : List UInt8) (w : World) (h : StAt w g 0 [a0, a1, a2, a3, a4]) (hf : ∀ j, w.frozen? ⟨g, j, none⟩ = false) (hB : B ≤ g) :
    Calls Tryd.prog 133 #[.slice (some ⟨g, 0, none⟩) 5 5, .int .i64 2, .int .i64 3] w fun e w' => e = .returned (.slice (some ⟨g, 0, none⟩) 4 5) ∧ StAt w' g 0 [a0, a1, a3, a4] ∧ Below B w w' := by
  obtain ⟨Sx, hSx⟩ : ∃ Sx : Nat → ByteArray, Sx = fun i => bsT (([a0, a1, a2, a3, a4] : List (List UInt8)).getD i []) := ⟨_, rfl⟩
  have hc : ∀ i, i < 5 → w.cell? ⟨g, 0 + i, none⟩ = some (.string (Sx i)) := fun i hi => by
    rw [hSx]
    have : i = 0 ∨ i = 1 ∨ i = 2 ∨ i = 3 ∨ i = 4 := by omega
    rcases this with rfl | rfl | rfl | rfl | rfl
    · exact h 0 a0 rfl
    · exact h 1 a1 rfl
    · exact h 2 a2 rfl
    · exact h 3 a3 rfl
    · exact h 4 a4 rfl
  refine (slices_Delete_string_cells g 0 5 5 2 3 Sx w (by omega) (by omega) (by omega) (by omega) hc (fun j _ => hf _)).mono ?_
  rintro e w' ⟨rfl, q, rfl⟩
  have hvs : (((Lib.strsOf Sx 5).take 2 ++ (Lib.strsOf Sx 5).drop 3 ++ List.replicate (3 - 2) []).map encStr) = [Value.string (bsT a0), .string (bsT a1), .string (bsT a3), .string (bsT a4), .string (bsT [])] := by
    rw [hSx]; rfl
  rw [hvs]
  have hin := World.cell?_setCells_in g [Value.string (bsT a0), .string (bsT a1), .string (bsT a3), .string (bsT a4), .string (bsT [])] 0 (w.drewN q) (fun j hj => by
    have h2 := hc j hj
    show (w.cell? ⟨g, 0 + j, none⟩).isSome = true
    rw [h2]; rfl)
  refine ⟨rfl, fun j x hx => ?_, below_cells hB _ _ _ _ ⟨rfl, rfl, rfl, Nat.le_refl _, fun _ _ => rfl⟩⟩
  match j, hx with
  | 0, hx => simp at hx; subst hx; exact hin 0 (by simp)
  | 1, hx => simp at hx; subst hx; exact hin 1 (by simp)
  | 2, hx => simp at hx; subst hx; exact hin 2 (by simp)
  | 3, hx => simp at hx; subst hx; exact hin 3 (by simp)
/-- what parsePiece leaves -/
def PpP (s : List UInt8) (w : World) (e : Ending) (w' : World) : Prop := ∃ p ok, e = .returned (.tuple #[.agg #[.int .i8 p.x, .int .i8 p.y, .int .i8 p.kind, .int .i8 p.turn, .int .i8 p.delay], .bool ok]) ∧ p.in8 ∧ (∀ q, pcIn q → s = pcL q → ok = true ∧ p = q) ∧ Below w.heap.size w w'
theorem pp_fail {s : List UInt8} {w w' : World} {e : Ending} (h1 : e = .returned (.tuple #[.agg #[.int .i8 0, .int .i8 0, .int .i8 0, .int .i8 0, .int .i8 0], .bool false])) (h2 : ∀ q, pcIn q → s ≠ pcL q) (h3 : Below w.heap.size w w') : PpP s w e w' :=
  ⟨⟨0, 0, 0, 0, 0⟩, false, h1, by unfold Pc.in8 i8; simp, fun q h4 h5 => absurd h5 (h2 q h4), h3⟩
theorem five_ {ws : List (List UInt8)} (h : ws.length = 5) : ∃ a0 a1 a2 a3 a4, ws = [a0, a1, a2, a3, a4] := by
  match ws, h with
  | [a0, a1, a2, a3, a4], _ => exact ⟨a0, a1, a2, a3, a4, rfl⟩
theorem pp_split {s a0 a1 a2 a3 a4 : List UInt8} {q : Pc} (hw : spl 32 s = [a0, a1, a2, a3, a4]) (h : s = pcL q) : a0 = decL q.x ∧ a1 = decL q.y ∧ a2 = kindWL q.kind ∧ a3 = decL q.turn ∧ a4 = decL q.delay := by
  rw [h, pcL_words] at hw
  simp only [pcWs, List.cons.injEq, and_true] at hw
  obtain ⟨e0, e1, e2, e3, e4⟩ := hw
  exact ⟨e0.symm, e1.symm, e2.symm, e3.symm, e4.symm⟩
set_option maxRecDepth 100000 in
set_option maxHeartbeats 8000000 in
theorem parsePiece_any (l : List UInt8) (w : World) (hl : l.length ≤ 1048576) (hE : ErrAt w) (hst : KindAt w) : Calls Tryd.prog 105 #[.string (bsT l)] w (PpP l w) := by
  obtain ⟨W0, hW⟩ : ∃ W0, w.alloc (.cells #[.int .i8 0, .int .i8 0, .int .i8 0, .int .i8 0, .int .i8 0] 80) = W0 := ⟨_, rfl⟩
  have k0 : Below w.heap.size w W0 := by rw [← hW]; exact kAlloc (Below.refl _ _) _
  have bR : W0.heap[w.heap.size]? = some (.cells #[.int .i8 0, .int .i8 0, .int .i8 0, .int .i8 0, .int .i8 0] 80 (0, 0)) := by rw [← hW]; exact heap_alloc_new _ _
  have lR := blk_lt bR
  obtain ⟨X, hX⟩ : ∃ X, w.heap.size = X := ⟨_, rfl⟩
  rw [hX] at bR lR
  obtain ⟨n, hn⟩ : ∃ n, (spl 32 l).length = n := ⟨_, rfl⟩
  have hnl : n ≤ 1048577 := by have := spl_length 32 l; omega
  have HBR := Lib.hid (fun W2 (h2 : Below W0.heap.size W0 W2) => blk_below bR h2)
  have HKW := Lib.hid (fun W2 (h2 : Below W0.heap.size W0 W2) => kTrans k0 h2)
  have HER := Lib.hid (fun W2 (h2 : Below W0.heap.size W0 W2) => hE.below (kTrans k0 h2))
  have HSI := Lib.hid (fun W2 (h2 : Below W0.heap.size W0 W2) => hst.below (kTrans k0 h2))
  have HSP := Lib.hid (split_any l 32 W0 (by omega) n hn)
  have HSH := Lib.hid (fun x (hx : x ∈ spl 32 l) => (by have := spl_short 32 l x hx; omega : x.length ≤ 2000000))
  have hXw : w.heap.size ≤ X := by omega
  have HW := Lib.hid hW
  have HX := Lib.hid hX
  have Hn := Lib.hid hn
  clear hW k0 bR hX hE hst hn hl
  go_enter Tryd.func105, Tryd.ntmps105
  go_upto_region 1 with fail
  try rw [HW.out]
  try rw [HX.out]
  clear HW HX
  go_wp2_with fail
  refine HSP.out.mono ?_
  rintro e w1 ⟨rfl, hrow, hb1⟩
  have K1 := Lib.hid hb1
  obtain ⟨g, hg⟩ : ∃ g, W0.heap.size = g := ⟨_, rfl⟩
  have hgW : W0.heap.size ≤ g := by omega
  rw [hg] at hrow ⊢
  have lg := blk_lt hrow
  have hst := StAt.of hrow
  have hfz : ∀ j, w1.frozen? ⟨g, j, none⟩ = false := fun j => frozen_of_row _ _ j _ _ hrow
  have n1 := hb1.size
  clear HSP hb1 hrow hg
  by_cases h5 : n = 5
  · subst h5
    obtain ⟨a0, a1, a2, a3, a4, hws⟩ := five_ Hn.out
    have HWS := Lib.hid hws
    rw [hws] at hst
    have q2 : w1.cell? ⟨g, 2, none⟩ = some (.string (bsT a2)) := by have h := hst 2 a2 rfl; rwa [Nat.zero_add] at h
    have HN1 := Lib.hid (kindNamed2_any a2 w1 (HSI.out w1 K1.out))
    have HDL := Lib.hid (delete5_any g W0.heap.size a0 a1 a2 a3 a4 w1 hst hfz hgW)
    have HS1 := Lib.hid (fun W2 (h2 : Below W0.heap.size W0 W2) (hs2 : StAt W2 g 0 [a0, a1, a3, a4]) (hg2 : g < W2.heap.size) => parseSmalls2_any g 0 5 4 4 [a0, a1, a3, a4] W2 rfl hs2 hg2 (by omega) (fun x hx => HSH.out x (by rw [hws]; simp only [List.mem_cons, List.not_mem_nil, or_false] at hx ⊢; rcases hx with rfl | rfl | rfl | rfl <;> simp)) (by omega) (HER.out W2 h2))
    clear hws hst hfz HSH HER HSI
    go_wp2_with fail
    refine HN1.out.mono ?_
    rintro e w' ⟨k1, ok1, rfl, hr1, h⟩
    obtain rfl : w1 = w' := h
    have HR1 := Lib.hid hr1
    clear hr1 q2 HN1
    go_wp2_with fail
    refine HDL.out.mono ?_
    rintro e w2 ⟨rfl, hs2, hb2⟩
    have K2 := Lib.hid (K1.out.trans hb2)
    have lg2 := Nat.lt_of_lt_of_le lg hb2.size
    have HS2 := Lib.hid (HS1.out w2 K2.out hs2 lg2)
    clear HS1 HDL hs2 hb2
    go_wp2_with fail
    refine HS2.out.mono ?_
    rintro e w3 ⟨v3, ok3, rfl, hr3, hb3⟩
    have HR3 := Lib.hid hr3
    have K3 := Lib.hid (kTrans K2.out hb3)
    have rs_ := HBR.out _ K3.out
    have HB := Lib.hid (HKW.out _ K3.out)
    clear hr3 hb3 HS2
    have HNO := Lib.hid (fun (h : ¬ (ok1 = true ∧ ok3 = true)) => (show ∀ q, pcIn q → l ≠ pcL q from fun q hq hl => h (by
      obtain ⟨e0, e1, e2, e3, e4⟩ := pp_split HWS.out hl
      unfold pcIn at hq
      refine ⟨?_, ?_⟩
      · rcases HR1.out.2 with ⟨a, _⟩ | ⟨_, a⟩
        · exact a
        · exact absurd (by rw [e2]; congr 1; omega) (a q.kind.toNat (by omega))
      · rcases HR3.out with ⟨a, _⟩ | ⟨_, a⟩
        · exact a
        · exact absurd ⟨by rw [e0, e1, e3, e4]; rfl, rfl, fun x hx => by simp at hx; omega⟩ (a [q.x, q.y, q.turn, q.delay]))))
    cases ok1 with
    | false =>
      have HF := Lib.hid (HNO.out (fun h => by cases h.1))
      clear HNO HR1 HR3
      go_wp2_with (refine wpList_store_row rfl 80 _ _ rfl X #[.int .i8 0, .int .i8 0, .int .i8 0, .int .i8 0, .int .i8 0] rfl rfl 80 _ rs_ (by kernel_rfl) (by kernel_rfl) (by kernel_rfl) ?_)
      refine bodyPost_ret (v := .tuple #[.agg #[.int .i8 0, .int .i8 0, .int .i8 0, .int .i8 0, .int .i8 0], .bool false]) (results_cell_tmp rfl _ _ X 80 #[.int .i8 0, .int .i8 0, .int .i8 0, .int .i8 0, .int .i8 0] (0, 0) _ _ rfl rfl (setRow_heap _ _ _ _ _ _ rs_) Tryd.underlying80 rfl (by kernel_rfl)) rfl ?_
      exact pp_fail rfl HF.out (kRowW HB.out hXw _)
    | true =>
      cases ok3 with
      | false =>
        have HF := Lib.hid (HNO.out (fun h => by cases h.2))
        clear HNO HR1 HR3
        go_wp2_with (refine wpList_store_row rfl 80 _ _ rfl X #[.int .i8 0, .int .i8 0, .int .i8 0, .int .i8 0, .int .i8 0] rfl rfl 80 _ rs_ (by kernel_rfl) (by kernel_rfl) (by kernel_rfl) ?_)
        refine bodyPost_ret (v := .tuple #[.agg #[.int .i8 0, .int .i8 0, .int .i8 0, .int .i8 0, .int .i8 0], .bool false]) (results_cell_tmp rfl _ _ X 80 #[.int .i8 0, .int .i8 0, .int .i8 0, .int .i8 0, .int .i8 0] (0, 0) _ _ rfl rfl (setRow_heap _ _ _ _ _ _ rs_) Tryd.underlying80 rfl (by kernel_rfl)) rfl ?_
        exact pp_fail rfl HF.out (kRowW HB.out hXw _)
      | true =>
        obtain ⟨g3, F3, rfl, hm3, _, hf3, hs3⟩ : ∃ g F, v3 = .slice (some ⟨g, 0, none⟩) 4 4 ∧ MRow w3 g 4 F ∧ w2.heap.size ≤ g ∧ (∀ i, i < 4 → -128 ≤ F i ∧ F i ≤ 127) ∧ (∀ vs, Smalls vs [a0, a1, a3, a4] 4 → ∀ i, i < 4 → vs.getD i 0 = F i) := by
          rcases HR3.out with ⟨_, h⟩ | ⟨h, _⟩
          · exact h
          · cases h
        have hk1 : -128 ≤ k1 ∧ k1 ≤ 127 := by have := HR1.out.1; omega
        have hP := Lib.hid (show ∀ q, pcIn q → l = pcL q → (⟨F3 0, F3 1, k1, F3 2, F3 3⟩ : Pc) = q from fun q hq hl => by
          obtain ⟨e0, e1, e2, e3, e4⟩ := pp_split HWS.out hl
          unfold pcIn at hq
          have s1 : Smalls [q.x, q.y, q.turn, q.delay] [a0, a1, a3, a4] 4 := ⟨by rw [e0, e1, e3, e4]; rfl, rfl, fun x hx => by simp at hx; omega⟩
          have f0 : q.x = F3 0 := hs3 _ s1 0 (by omega)
          have f1 : q.y = F3 1 := hs3 _ s1 1 (by omega)
          have f3 : q.turn = F3 2 := hs3 _ s1 2 (by omega)
          have f4 : q.delay = F3 3 := hs3 _ s1 3 (by omega)
          have f2 : k1 = q.kind := by
            rcases HR1.out.2 with ⟨_, a⟩ | ⟨a, _⟩
            · exact kind_eq (by rcases HR1.out.1 with h | h <;> omega) (by omega) (a.symm.trans e2)
            · cases a
          obtain ⟨b0, b1, b2, b3, b4⟩ := q
          simp only at f0 f1 f2 f3 f4
          rw [f0, f1, f2, f3, f4])
        have hIn : Hid (Pc.in8 ⟨F3 0, F3 1, k1, F3 2, F3 3⟩) := Lib.hid (by
          have b0 := hf3 0 (by omega); have b1 := hf3 1 (by omega); have b3 := hf3 2 (by omega); have b4 := hf3 3 (by omega)
          exact ⟨b0, b1, hk1, b3, b4⟩)
        have c0 := hm3.at_ 0 (by omega)
        have c1 := hm3.at_ 1 (by omega)
        have c3 := hm3.at_ 2 (by omega)
        have c4 := hm3.at_ 3 (by omega)
        have l3_ := hm3.lt
        obtain ⟨x0, h0⟩ : ∃ x, F3 0 = x := ⟨_, rfl⟩
        obtain ⟨x1, h1⟩ : ∃ x, F3 1 = x := ⟨_, rfl⟩
        obtain ⟨x3, h3⟩ : ∃ x, F3 2 = x := ⟨_, rfl⟩
        obtain ⟨x4, h4⟩ : ∃ x, F3 3 = x := ⟨_, rfl⟩
        rw [h0] at c0 hP hIn
        rw [h1] at c1 hP hIn
        rw [h3] at c3 hP hIn
        rw [h4] at c4 hP hIn
        clear HNO HR1 HR3 hm3 hf3 hs3 h0 h1 h3 h4 rs_ HB HWS
        go_upto_region 8 with fail
        refine regionW_of_HR (fun W' => Below w3.heap.size w3 W') (by kernel_rfl) (Below.drew (Below.refl _ _)) (fun hHeld => ?_)
        refine wpAnyH_take (i := 0) (v := .slice (some ⟨g3, 0, none⟩) 4 4) rfl (by kernel_rfl) (by kernel_rfl) (by kernel_rfl) (fun _ _ _ h => absurd h.1 (by simp)) (Or.inl ⟨by rfl, fun w7 hSw => ?_⟩) (by assumption) ?_
        · clear hSw
          go_simp
        simp only [Act.put, List.getElem_toArray, List.getElem_cons_zero, List.getElem_cons_succ, List.setIfInBounds_toArray, List.set_cons_zero, List.set_cons_succ]
        refine wpAnyH_take (i := 1) (v := .pointer (some ⟨g3, 0, none⟩)) rfl (by kernel_rfl) (by kernel_rfl) (by kernel_rfl) (fun _ _ _ h => absurd h.1 (by simp)) (Or.inl ⟨by rfl, fun w7 hSw => ?_⟩) (by assumption) ?_
        · clear hSw
          go_simp
        simp only [Act.put, List.getElem_toArray, List.getElem_cons_zero, List.getElem_cons_succ, List.setIfInBounds_toArray, List.set_cons_zero, List.set_cons_succ]
        refine wpAnyH_take (i := 2) (v := .int .i8 x0) rfl (by kernel_rfl) (by kernel_rfl) (by kernel_rfl) (fun _ _ _ h => absurd h.1 (by simp)) (Or.inl ⟨by rfl, fun w7 hSw => ?_⟩) (by assumption) ?_
        · have q7 := (hSw.cell (p := ⟨g3, 0, none⟩) l3_).trans c0
          have lq7 := Nat.lt_of_lt_of_le l3_ hSw.size
          clear hSw
          go_simp
        simp only [Act.put, List.getElem_toArray, List.getElem_cons_zero, List.getElem_cons_succ, List.setIfInBounds_toArray, List.set_cons_zero, List.set_cons_succ]
        refine wpAnyH_take (i := 3) (v := .slice (some ⟨g3, 0, none⟩) 4 4) rfl (by kernel_rfl) (by kernel_rfl) (by kernel_rfl) (fun _ _ _ h => absurd h.1 (by simp)) (Or.inl ⟨by rfl, fun w7 hSw => ?_⟩) (by assumption) ?_
        · clear hSw
          go_simp
        simp only [Act.put, List.getElem_toArray, List.getElem_cons_zero, List.getElem_cons_succ, List.setIfInBounds_toArray, List.set_cons_zero, List.set_cons_succ]
        refine wpAnyH_take (i := 4) (v := .pointer (some ⟨g3, 1, none⟩)) rfl (by kernel_rfl) (by kernel_rfl) (by kernel_rfl) (fun _ _ _ h => absurd h.1 (by simp)) (Or.inl ⟨by rfl, fun w7 hSw => ?_⟩) (by assumption) ?_
        · clear hSw
          go_simp
        simp only [Act.put, List.getElem_toArray, List.getElem_cons_zero, List.getElem_cons_succ, List.setIfInBounds_toArray, List.set_cons_zero, List.set_cons_succ]
        refine wpAnyH_take (i := 5) (v := .int .i8 x1) rfl (by kernel_rfl) (by kernel_rfl) (by kernel_rfl) (fun _ _ _ h => absurd h.1 (by simp)) (Or.inl ⟨by rfl, fun w7 hSw => ?_⟩) (by assumption) ?_
        · have q7 := (hSw.cell (p := ⟨g3, 1, none⟩) l3_).trans c1
          have lq7 := Nat.lt_of_lt_of_le l3_ hSw.size
          clear hSw
          go_simp
        simp only [Act.put, List.getElem_toArray, List.getElem_cons_zero, List.getElem_cons_succ, List.setIfInBounds_toArray, List.set_cons_zero, List.set_cons_succ]
        refine wpAnyH_take (i := 6) (v := .agg #[.int .i8 x0, .int .i8 x1]) rfl (by kernel_rfl) (by kernel_rfl) (by kernel_rfl) (fun _ _ _ h => absurd h.1 (by simp)) (Or.inl ⟨by rfl, fun w7 hSw => ?_⟩) (by assumption) ?_
        · clear hSw
          go_simp
        simp only [Act.put, List.getElem_toArray, List.getElem_cons_zero, List.getElem_cons_succ, List.setIfInBounds_toArray, List.set_cons_zero, List.set_cons_succ]
        have K0 := Lib.hid hHeld
        clear hHeld
        obtain ⟨xt0, hxt0⟩ : ∃ z, w3.drew = z := ⟨_, rfl⟩
        rw [hxt0] at K0 ⊢
        clear hxt0
        refine wpAnyH_ready (rs := [7]) (by kernel_rfl) (by simp) ?_
        refine AllReadyH.cons rfl (fun K hK => ?_) AllReadyH.nil
        · skip
          go_simp
          obtain ⟨xt1, et1⟩ : ∃ z, xt0.alloc (.cells #[.int .i8 0, .int .i8 0] 24) = z := ⟨_, rfl⟩
          have kt1 : Below xt0.heap.size xt0 xt1 := by rw [← et1]; exact kAlloc (Below.refl _ _) _
          have bt1 : xt1.heap[xt0.heap.size]? = some (.cells #[.int .i8 0, .int .i8 0] 24 (0, 0)) := by rw [← et1]; exact heap_alloc_new _ _
          try rw [et1]
          obtain ⟨gt1, ft1⟩ : ∃ z, xt0.heap.size = z := ⟨_, rfl⟩
          have K1 := Lib.hid (kTrans K0.out kt1)
          have lt1 : w3.heap.size ≤ gt1 := by have := K0.out.size; omega
          rw [ft1] at bt1 ⊢
          have bc_1 := Lib.hid bt1
          refine hK.out _ _ K1.out (fun _ => ?_)
          clear hK K kt1 bt1 et1 ft1
          refine wpAnyH_ready (rs := [8]) (by kernel_rfl) (by simp) ?_
          refine AllReadyH.cons rfl (fun K hK => ?_) AllReadyH.nil
          · skip
            have q0 : xt1.cell? ⟨gt1, 0, none⟩ = some (.int .i8 0) := cell_of_row _ _ 0 _ _ _ bc_1.out
            have y0 : xt1.frozen? ⟨gt1, 0, none⟩ = false := frozen_of_row _ _ 0 _ _ bc_1.out
            have q1 : xt1.cell? ⟨gt1, 1, none⟩ = some (.int .i8 0) := cell_of_row _ _ 1 _ _ _ bc_1.out
            have y1 : xt1.frozen? ⟨gt1, 1, none⟩ = false := frozen_of_row _ _ 1 _ _ bc_1.out
            have lz := blk_lt bc_1.out
            go_simp
            have K2 : Hid (Below w3.heap.size w3 ((xt1.setCell ⟨gt1, 0, none⟩ (.int .i8 x0)).setCell ⟨gt1, 1, none⟩ (.int .i8 x1))) := Lib.hid (kSet (kSet K1.out lt1 _) lt1 _)
            have bc_2 : Hid (((xt1.setCell ⟨gt1, 0, none⟩ (.int .i8 x0)).setCell ⟨gt1, 1, none⟩ (.int .i8 x1)).heap[gt1]? = some (.cells #[.int .i8 x0, .int .i8 x1] 24 (0, 0))) := Lib.hid (blk_set_same' (blk_set_same' bc_1.out))
            refine hK.out _ _ K2.out (fun _ => ?_)
            clear hK K lz q0 y0 q1 y1
            generalize ((xt1.setCell ⟨gt1, 0, none⟩ (.int .i8 x0)).setCell ⟨gt1, 1, none⟩ (.int .i8 x1)) = xt2 at K2 bc_2 ⊢
            refine wpAnyH_done (by kernel_rfl) ?_ _
            refine ⟨rfl, ?_⟩
            have c3 := (K2.out.cell (p := ⟨g3, 2, none⟩) l3_).trans c3
            have c4 := (K2.out.cell (p := ⟨g3, 3, none⟩) l3_).trans c4
            have l3_ := Nat.lt_of_lt_of_le l3_ K2.out.size
            have d0 : xt2.cell? ⟨gt1, 0, none⟩ = some (.int .i8 x0) := cell_of_row _ _ 0 _ _ _ bc_2.out
            have d1 : xt2.cell? ⟨gt1, 1, none⟩ = some (.int .i8 x1) := cell_of_row _ _ 1 _ _ _ bc_2.out
            have ld_ := blk_lt bc_2.out
            have KX := Lib.hid (kTrans K3.out K2.out)
            go_upto_region 9 with fail
            go_still_tail 9, (by kernel_rfl)
            change wpList _ _ _ _ _ xt2.drew
            have rs_ := HBR.out xt2.drew (Below.drew KX.out)
            have HB := Lib.hid (HKW.out xt2.drew (Below.drew KX.out))
            go_wp2_with (refine wpList_store_row rfl 80 _ _ rfl X #[.int .i8 x0, .int .i8 x1, .int .i8 k1, .int .i8 x3, .int .i8 x4] rfl rfl 80 _ rs_ (by kernel_rfl) (by kernel_rfl) (by kernel_rfl) ?_)
            refine bodyPost_ret (v := .tuple #[.agg #[.int .i8 x0, .int .i8 x1, .int .i8 k1, .int .i8 x3, .int .i8 x4], .bool true]) (results_cell_tmp rfl _ _ X 80 #[.int .i8 x0, .int .i8 x1, .int .i8 k1, .int .i8 x3, .int .i8 x4] (0, 0) _ _ rfl rfl (setRow_heap _ _ _ _ _ _ rs_) Tryd.underlying80 rfl (by kernel_rfl)) rfl ?_
            exact ⟨⟨x0, x1, k1, x3, x4⟩, true, rfl, hIn.out, fun q h1 h2 => ⟨rfl, hP.out q h1 h2⟩, kRowW HB.out hXw _⟩
  · have HF := Lib.hid (show ∀ q, pcIn q → l ≠ pcL q from fun q _ hl => h5 (by rw [← Hn.out, hl, pcL_words]; rfl))
    have e6 : ¬ ((n : Nat) : Int) = 5 := by omega
    have rs_ := HBR.out _ K1.out
    have HB := Lib.hid (HKW.out _ K1.out)
    clear Hn HSH
    go_wp2_with (refine wpList_store_row rfl 80 _ _ rfl X #[.int .i8 0, .int .i8 0, .int .i8 0, .int .i8 0, .int .i8 0] rfl rfl 80 _ rs_ (by kernel_rfl) (by kernel_rfl) (by kernel_rfl) ?_)
    refine bodyPost_ret (v := .tuple #[.agg #[.int .i8 0, .int .i8 0, .int .i8 0, .int .i8 0, .int .i8 0], .bool false]) (results_cell_tmp rfl _ _ X 80 #[.int .i8 0, .int .i8 0, .int .i8 0, .int .i8 0, .int .i8 0] (0, 0) _ _ rfl rfl (setRow_heap _ _ _ _ _ _ rs_) Tryd.underlying80 rfl (by kernel_rfl)) rfl ?_
    exact pp_fail rfl HF.out (kRowW HB.out hXw _)
end Go.Proofs.YtobhppkcgioheaaDoor
