/- ReadKnock..: the program's line. -/
import Derived.Test.YthngnbaoaeomeaaDoorKr0
import Derived.Deep.DeepCutAuto
import Derived.StillTailTactics
namespace Go.Proofs.YthngnbaoaeomeaaDoor
open Go.ChangeShapes Go.WideShapes Go.ChangeAt Go.RowKit Go.Joins Go.Deep
set_option linter.unusedVariables false
set_option linter.unusedSimpArgs false

/-- what the reader of a line leaves -/
def KrL (s : List UInt8) (w : World) (e : Ending) (w' : World) : Prop := ∃ p ok, e = .returned (.tuple #[.agg #[.int .i64 p.after, .int .i64 p.piece, .int .i8 p.side], .bool ok]) ∧ p.wf ∧ (∀ q, koIn q → s = koB q → ok = true ∧ p = q) ∧ Below w.heap.size w w'
theorem kr_zero : (⟨0, 0, 0⟩ : Ko).wf := by exact ⟨wfX_i64 (by decide), wfX_i64 (by decide), wfX_i8 (by decide)⟩
theorem kr_fail {s : List UInt8} {w w' : World} {e : Ending} (h1 : e = .returned (.tuple #[.agg #[.int .i64 0, .int .i64 0, .int .i8 0], .bool false])) (h2 : ∀ q, koIn q → s ≠ koB q) (h3 : Below w.heap.size w w') : KrL s w e w' :=
  ⟨⟨0, 0, 0⟩, false, h1, kr_zero, fun q h4 h5 => absurd h5 (h2 q h4), h3⟩
theorem kr_words {ws : List (List UInt8)} (h : ws.length = 3) : ∃ a0 a1 a2, ws = [a0, a1, a2] := by
  match ws, h with
  | [a0, a1, a2], _ => exact ⟨a0, a1, a2, rfl⟩
theorem kr_split {s a0 a1 a2 : List UInt8} {q : Ko} (hw : spl 32 s = [a0, a1, a2]) (h : s = koB q) : a0 = decL q.after ∧ a1 = decL q.piece ∧ a2 = sideWL q.side := by
  rw [h, koB_words] at hw
  simp only [koWs, List.cons.injEq, and_true] at hw
  obtain ⟨e0, e1, e2⟩ := hw
  exact ⟨e0.symm, e1.symm, e2.symm⟩
set_option maxRecDepth 100000 in
set_option maxHeartbeats 8000000 in
theorem parseKnock_any (l : List UInt8) (w : World) (hl : l.length ≤ 1048576) (hE : ErrAt w) (hst : SideAt w) : Calls Tryd.prog 78 #[.string (bsT l)] w (KrL l w) := by
  obtain ⟨W0, hW⟩ : ∃ W0, w.alloc (.cells #[.int .i64 0, .int .i64 0, .int .i8 0] 82) = W0 := ⟨_, rfl⟩
  have k0 : Below w.heap.size w W0 := by rw [← hW]; exact kAlloc (Below.refl _ _) _
  have bR : W0.heap[w.heap.size]? = some (.cells #[.int .i64 0, .int .i64 0, .int .i8 0] 82 (0, 0)) := by rw [← hW]; exact heap_alloc_new _ _
  have lR := blk_lt bR
  obtain ⟨X, hX⟩ : ∃ X, w.heap.size = X := ⟨_, rfl⟩
  rw [hX] at bR lR
  obtain ⟨n, hn⟩ : ∃ n, (spl 32 l).length = n := ⟨_, rfl⟩
  have hnl : n ≤ 1048577 := by have := spl_length 32 l; omega
  have HBR := Lib.hid (fun W2 (h2 : Below W0.heap.size W0 W2) => blk_below bR h2)
  have HKW := Lib.hid (fun W2 (h2 : Below W0.heap.size W0 W2) => kTrans k0 h2)
  have HER := Lib.hid (fun W2 (h2 : Below W0.heap.size W0 W2) => hE.below (kTrans k0 h2))
  have HSI := Lib.hid (fun W2 (h2 : Below W0.heap.size W0 W2) => hst.below (kTrans k0 h2))
  have HSP := Lib.hid (split_any l 32 W0 (by omega) n hn)
  have HSH := Lib.hid (fun x (hx : x ∈ spl 32 l) => (by have := spl_short 32 l x hx; omega : x.length ≤ 2000000))
  have hXw : w.heap.size ≤ X := by omega
  have HW := Lib.hid hW
  have HX := Lib.hid hX
  have Hn := Lib.hid hn
  clear hW k0 bR hX hE hst hn hl
  go_enter Tryd.func78, Tryd.ntmps78
  go_upto_region 1 with fail
  try rw [HW.out]
  try rw [HX.out]
  clear HW HX
  go_wp2_with fail
  refine HSP.out.mono ?_
  rintro e w1 ⟨rfl, hrow, hb1⟩
  have K1 := Lib.hid hb1
  obtain ⟨g, hg⟩ : ∃ g, W0.heap.size = g := ⟨_, rfl⟩
  have hgW : W0.heap.size ≤ g := by omega
  rw [hg] at hrow ⊢
  have lg := blk_lt hrow
  have hst := StAt.of hrow
  have n1 := hb1.size
  clear HSP hb1 hrow hg
  by_cases h5 : n = 3
  · subst h5
    obtain ⟨a0, a1, a2, hws⟩ := kr_words Hn.out
    have HWS := Lib.hid hws
    rw [hws] at hst
    have HST := Lib.hid (fun W2 (h2 : Below w1.heap.size w1 W2) => hst.below h2 lg)
    have HS1 := Lib.hid (parseSmalls2_any g 0 3 2 2 [a0, a1] w1 rfl (by have h := hst.take 2; simpa using h) lg (by omega) (fun x hx => HSH.out x (by rw [hws]; simp only [List.mem_cons, List.not_mem_nil, or_false] at hx ⊢; rcases hx with rfl | rfl <;> simp)) (by omega) (HER.out w1 K1.out))
    clear hws hst
    go_wp2_with fail
    refine HS1.out.mono ?_
    rintro e w3 ⟨v3, ok3, rfl, hr3, hb3⟩
    have HR3 := Lib.hid hr3
    have K3 := Lib.hid (kTrans K1.out hb3)
    have q2 : w3.cell? ⟨g, 2, none⟩ = some (.string (bsT a2)) := by have h := HST.out w3 hb3 2 a2 rfl; rwa [Nat.zero_add] at h
    have lg3 := Nat.lt_of_lt_of_le lg hb3.size
    have HN1 := Lib.hid (sideNamed2_any a2 w3 (HSI.out w3 K3.out))
    clear hr3 hb3 HS1
    go_wp2_with fail
    refine HN1.out.mono ?_
    rintro e w' ⟨k1, ok1, rfl, hr1, h⟩
    obtain rfl : w3 = w' := h
    have HR1 := Lib.hid hr1
    clear hr1 q2 HN1
    have rs_ := HBR.out _ K3.out
    have HB := Lib.hid (HKW.out _ K3.out)
    have HNO := Lib.hid (fun (h : ¬ (ok1 = true ∧ ok3 = true)) => (show ∀ q, koIn q → l ≠ koB q from fun q hq hl => h (by
      obtain ⟨e0, e1, e2⟩ := kr_split HWS.out hl
      unfold koIn at hq
      refine ⟨?_, ?_⟩
      · rcases HR1.out.2 with ⟨a, _⟩ | ⟨_, a⟩
        · exact a
        · exact absurd (by rw [e2]; congr 1; omega) (a q.side.toNat (by omega))
      · rcases HR3.out with ⟨a, _⟩ | ⟨_, a⟩
        · exact a
        · exact absurd ⟨by rw [e0, e1]; rfl, rfl, fun x hx => by simp at hx; omega⟩ (a [q.after, q.piece])
    )))
    cases ok3 with
    | false =>
      have HF := Lib.hid (HNO.out (fun h => by cases h.2))
      clear HNO HR1 HR3
      go_wp2_with (refine wpList_store_row rfl 82 _ _ rfl X #[.int .i64 0, .int .i64 0, .int .i8 0] rfl rfl 82 _ rs_ (by kernel_rfl) (by kernel_rfl) (by kernel_rfl) ?_)
      refine bodyPost_ret (v := .tuple #[.agg #[.int .i64 0, .int .i64 0, .int .i8 0], .bool false]) (results_cell_tmp rfl _ _ X 82 #[.int .i64 0, .int .i64 0, .int .i8 0] (0, 0) _ _ rfl rfl (setRow_heap _ _ _ _ _ _ rs_) Tryd.underlying82 rfl (by kernel_rfl)) rfl ?_
      exact kr_fail rfl HF.out (kRowW HB.out hXw _)
    | true =>
      cases ok1 with
      | false =>
        have HF := Lib.hid (HNO.out (fun h => by cases h.1))
        clear HNO HR1 HR3
        go_wp2_with (refine wpList_store_row rfl 82 _ _ rfl X #[.int .i64 0, .int .i64 0, .int .i8 0] rfl rfl 82 _ rs_ (by kernel_rfl) (by kernel_rfl) (by kernel_rfl) ?_)
        refine bodyPost_ret (v := .tuple #[.agg #[.int .i64 0, .int .i64 0, .int .i8 0], .bool false]) (results_cell_tmp rfl _ _ X 82 #[.int .i64 0, .int .i64 0, .int .i8 0] (0, 0) _ _ rfl rfl (setRow_heap _ _ _ _ _ _ rs_) Tryd.underlying82 rfl (by kernel_rfl)) rfl ?_
        exact kr_fail rfl HF.out (kRowW HB.out hXw _)
      | true =>
        obtain ⟨g3, F3, rfl, hm3, _, hf3, hs3⟩ : ∃ g F, v3 = .slice (some ⟨g, 0, none⟩) 2 2 ∧ MRow w3 g 2 F ∧ w1.heap.size ≤ g ∧ (∀ i, i < 2 → -128 ≤ F i ∧ F i ≤ 127) ∧ (∀ vs, Smalls vs [a0, a1] 2 → ∀ i, i < 2 → vs.getD i 0 = F i) := by
          rcases HR3.out with ⟨_, h⟩ | ⟨h, _⟩
          · exact h
          · cases h
        have hk1 : 0 ≤ k1 ∧ k1 ≤ 3 := by have := HR1.out.1; omega
        have hP := Lib.hid (show ∀ q, koIn q → l = koB q → (⟨F3 0, F3 1, k1⟩ : Ko) = q from fun q hq hl => by
          obtain ⟨e0, e1, e2⟩ := kr_split HWS.out hl
          unfold koIn at hq
          have s1 : Smalls [q.after, q.piece] [a0, a1] 2 := ⟨by rw [e0, e1]; rfl, rfl, fun x hx => by simp at hx; omega⟩
          have f0 : q.after = F3 0 := hs3 _ s1 0 (by omega)
          have f1 : q.piece = F3 1 := hs3 _ s1 1 (by omega)
          have f2 : k1 = q.side := by
            rcases HR1.out.2 with ⟨_, a⟩ | ⟨a, _⟩
            · exact side_eq (by rcases HR1.out.1 with h | h <;> omega) (by omega) (a.symm.trans e2)
            · cases a
          obtain ⟨z0, z1, z2⟩ := q
          simp only at f0 f1 f2
          rw [f0, f1, f2])
        have b0 := hf3 0 (by omega)
        have b1 := hf3 1 (by omega)
        have c0 := hm3.at_ 0 (by omega)
        have c1 := hm3.at_ 1 (by omega)
        have l3_ := hm3.lt
        obtain ⟨x0, h0⟩ : ∃ x, F3 0 = x := ⟨_, rfl⟩
        obtain ⟨x1, h1⟩ : ∃ x, F3 1 = x := ⟨_, rfl⟩
        rw [h0] at c0 hP b0
        rw [h1] at c1 hP b1
        have wx0 : IntKind.i64.wrap x0 = x0 := IntWalk.i64_in _ (by omega)
        have wx1 : IntKind.i64.wrap x1 = x1 := IntWalk.i64_in _ (by omega)
        clear HNO HR1 HR3 hm3 hf3 hs3 h0 h1 rs_ HB HWS
        go_upto_region 8 with fail
        go_still_tail 10, (by kernel_rfl)
        change wpList _ _ _ _ _ w3.drew
        have rs_ := HBR.out w3.drew (Below.drew K3.out)
        have HB := Lib.hid (HKW.out w3.drew (Below.drew K3.out))
        go_wp2_with (refine wpList_store_row rfl 82 _ _ rfl X #[.int .i64 x0, .int .i64 x1, .int .i8 k1] rfl rfl 82 _ rs_ (by kernel_rfl) (by kernel_rfl) (by kernel_rfl) ?_)
        refine bodyPost_ret (v := .tuple #[.agg #[.int .i64 x0, .int .i64 x1, .int .i8 k1], .bool true]) (results_cell_tmp rfl _ _ X 82 #[.int .i64 x0, .int .i64 x1, .int .i8 k1] (0, 0) _ _ rfl rfl (setRow_heap _ _ _ _ _ _ rs_) Tryd.underlying82 rfl (by kernel_rfl)) rfl ?_
        exact ⟨⟨x0, x1, k1⟩, true, rfl, ⟨wfX_i64 (n := x0) (by omega), wfX_i64 (n := x1) (by omega), wfX_i8 (n := k1) (by omega)⟩, fun q h1 h2 => ⟨rfl, hP.out q h1 h2⟩, kRowW HB.out hXw _⟩
  · have HF := Lib.hid (show ∀ q, koIn q → l ≠ koB q from fun q _ hl => h5 (by rw [← Hn.out, hl, koB_words]; rfl))
    have e6 : ¬ ((n : Nat) : Int) = 3 := by omega
    have rs_ := HBR.out _ K1.out
    have HB := Lib.hid (HKW.out _ K1.out)
    clear Hn HSH HER HSI
    go_wp2_with (refine wpList_store_row rfl 82 _ _ rfl X #[.int .i64 0, .int .i64 0, .int .i8 0] rfl rfl 82 _ rs_ (by kernel_rfl) (by kernel_rfl) (by kernel_rfl) ?_)
    refine bodyPost_ret (v := .tuple #[.agg #[.int .i64 0, .int .i64 0, .int .i8 0], .bool false]) (results_cell_tmp rfl _ _ X 82 #[.int .i64 0, .int .i64 0, .int .i8 0] (0, 0) _ _ rfl rfl (setRow_heap _ _ _ _ _ _ rs_) Tryd.underlying82 rfl (by kernel_rfl)) rfl ?_
    exact kr_fail rfl HF.out (kRowW HB.out hXw _)
end Go.Proofs.YthngnbaoaeomeaaDoor
