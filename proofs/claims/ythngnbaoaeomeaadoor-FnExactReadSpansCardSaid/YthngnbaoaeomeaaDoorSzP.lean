/- ReadSpans: the program's word. -/
import Derived.Test.YthngnbaoaeomeaaDoorSz0
import Derived.Deep.DeepCutAuto
import Derived.StillTailTactics
namespace Go.Proofs.YthngnbaoaeomeaaDoor
open Go.ChangeShapes Go.WideShapes Go.ChangeAt Go.RowKit Go.Joins Go.Deep
set_option linter.unusedVariables false
set_option linter.unusedSimpArgs false

/-- what the reader of a word leaves -/
def SzL (s : List UInt8) (w : World) (e : Ending) (w' : World) : Prop := ∃ p ok, e = .returned (.tuple #[.agg #[.int .i8 p.low, .int .i8 p.high], .bool ok]) ∧ p.wf ∧ (∀ q, sqIn q → s = spW q → ok = true ∧ p = q) ∧ Below w.heap.size w w'
theorem sz_zero : (⟨0, 0⟩ : Sq).wf := ⟨wfX_i8 (by decide), wfX_i8 (by decide)⟩
theorem sz_fail {s : List UInt8} {w w' : World} {e : Ending} (h1 : e = .returned (.tuple #[.agg #[.int .i8 0, .int .i8 0], .bool false])) (h2 : ∀ q, sqIn q → s ≠ spW q) (h3 : Below w.heap.size w w') : SzL s w e w' :=
  ⟨⟨0, 0⟩, false, h1, sz_zero, fun q h4 h5 => absurd h5 (h2 q h4), h3⟩
theorem sz_smalls {s : List UInt8} {q : Sq} (hq : sqIn q) (h : s = spW q) : Smalls [q.low, q.high] (spl 45 s) 2 := by
  unfold sqIn at hq
  exact ⟨by rw [h, spW_words]; rfl, rfl, fun x hx => by simp at hx; omega⟩
set_option maxRecDepth 100000 in
set_option maxHeartbeats 8000000 in
theorem parseSpan_any (l : List UInt8) (w : World) (hl : l.length ≤ 1048576) (hE : ErrAt w) : Calls Tryd.prog 81 #[.string (bsT l)] w (SzL l w) := by
  obtain ⟨W0, hW⟩ : ∃ W0, w.alloc (.cells #[.int .i8 0, .int .i8 0] 89) = W0 := ⟨_, rfl⟩
  have k0 : Below w.heap.size w W0 := by rw [← hW]; exact kAlloc (Below.refl _ _) _
  have bR : W0.heap[w.heap.size]? = some (.cells #[.int .i8 0, .int .i8 0] 89 (0, 0)) := by rw [← hW]; exact heap_alloc_new _ _
  have lR := blk_lt bR
  obtain ⟨X, hX⟩ : ∃ X, w.heap.size = X := ⟨_, rfl⟩
  rw [hX] at bR lR
  obtain ⟨n, hn⟩ : ∃ n, (spl 45 l).length = n := ⟨_, rfl⟩
  have hnl : n ≤ 1048577 := by have := spl_length 45 l; omega
  have HBR := Lib.hid (fun W2 (h2 : Below W0.heap.size W0 W2) => blk_below bR h2)
  have HKW := Lib.hid (fun W2 (h2 : Below W0.heap.size W0 W2) => kTrans k0 h2)
  have HER := Lib.hid (fun W2 (h2 : Below W0.heap.size W0 W2) => hE.below (kTrans k0 h2))
  have HSP := Lib.hid (split_any l 45 W0 (by omega) n hn)
  have HSH := Lib.hid (fun x (hx : x ∈ spl 45 l) => (by have := spl_short 45 l x hx; omega : x.length ≤ 2000000))
  have hXw : w.heap.size ≤ X := by omega
  have HW := Lib.hid hW
  have HX := Lib.hid hX
  have Hn := Lib.hid hn
  clear hW k0 bR hX hE hn hl
  go_enter Tryd.func81, Tryd.ntmps81
  go_upto_region 1 with fail
  try rw [HW.out]
  try rw [HX.out]
  clear HW HX
  go_wp2_with fail
  refine HSP.out.mono ?_
  rintro e w1 ⟨rfl, hrow, hb1⟩
  have K1 := Lib.hid hb1
  obtain ⟨g, hg⟩ : ∃ g, W0.heap.size = g := ⟨_, rfl⟩
  rw [hg] at hrow ⊢
  have lg := blk_lt hrow
  have hst := StAt.of hrow
  have n1 := hb1.size
  have HS1 := Lib.hid (parseSmalls2_any g 0 n n 2 (spl 45 l) w1 Hn.out hst lg (Nat.le_refl _) HSH.out (by omega) (HER.out w1 K1.out))
  clear HSP hb1 hrow hg hst
  go_wp2_with fail
  refine HS1.out.mono ?_
  rintro e w3 ⟨v3, ok3, rfl, hr3, hb3⟩
  have HR3 := Lib.hid hr3
  have K3 := Lib.hid (kTrans K1.out hb3)
  have rs_ := HBR.out _ K3.out
  have HB := Lib.hid (HKW.out _ K3.out)
  clear hr3 hb3 HS1
  cases ok3 with
  | false =>
    have HF := Lib.hid (show ∀ q, sqIn q → l ≠ spW q from fun q hq hl => by
      rcases HR3.out with ⟨a, _⟩ | ⟨_, a⟩
      · cases a
      · exact a _ (sz_smalls hq hl))
    clear HR3 HSH HER Hn
    go_wp2_with (refine wpList_store_row rfl 89 _ _ rfl X #[.int .i8 0, .int .i8 0] rfl rfl 89 _ rs_ (by kernel_rfl) (by kernel_rfl) (by kernel_rfl) ?_)
    refine bodyPost_ret (v := .tuple #[.agg #[.int .i8 0, .int .i8 0], .bool false]) (results_cell_tmp rfl _ _ X 89 #[.int .i8 0, .int .i8 0] (0, 0) _ _ rfl rfl (setRow_heap _ _ _ _ _ _ rs_) Tryd.underlying89 rfl (by kernel_rfl)) rfl ?_
    exact sz_fail rfl HF.out (kRowW HB.out hXw _)
  | true =>
    obtain ⟨g3, F3, rfl, hm3, _, hf3, hs3⟩ : ∃ g F, v3 = .slice (some ⟨g, 0, none⟩) 2 2 ∧ MRow w3 g 2 F ∧ w1.heap.size ≤ g ∧ (∀ i, i < 2 → -128 ≤ F i ∧ F i ≤ 127) ∧ (∀ vs, Smalls vs (spl 45 l) 2 → ∀ i, i < 2 → vs.getD i 0 = F i) := by
      rcases HR3.out with ⟨_, h⟩ | ⟨h, _⟩
      · exact h
      · cases h
    have hP := Lib.hid (show ∀ q, sqIn q → l = spW q → (⟨F3 0, F3 1⟩ : Sq) = q from fun q hq hl => by
      have s1 := sz_smalls hq hl
      have f0 : q.low = F3 0 := hs3 _ s1 0 (by omega)
      have f1 : q.high = F3 1 := hs3 _ s1 1 (by omega)
      obtain ⟨z0, z1⟩ := q
      simp only at f0 f1
      rw [f0, f1])
    have b0 := hf3 0 (by omega)
    have b1 := hf3 1 (by omega)
    have c0 := hm3.at_ 0 (by omega)
    have c1 := hm3.at_ 1 (by omega)
    have l3_ := hm3.lt
    obtain ⟨x0, h0⟩ : ∃ x, F3 0 = x := ⟨_, rfl⟩
    obtain ⟨x1, h1⟩ : ∃ x, F3 1 = x := ⟨_, rfl⟩
    rw [h0] at c0 hP b0
    rw [h1] at c1 hP b1
    clear HR3 hm3 hf3 hs3 h0 h1 rs_ HB HSH HER Hn
    go_upto_region 4 with fail
    go_still_tail 7, (by kernel_rfl)
    change wpList _ _ _ _ _ w3.drew
    have rs_ := HBR.out w3.drew (Below.drew K3.out)
    have HB := Lib.hid (HKW.out w3.drew (Below.drew K3.out))
    go_wp2_with (refine wpList_store_row rfl 89 _ _ rfl X #[.int .i8 x0, .int .i8 x1] rfl rfl 89 _ rs_ (by kernel_rfl) (by kernel_rfl) (by kernel_rfl) ?_)
    refine bodyPost_ret (v := .tuple #[.agg #[.int .i8 x0, .int .i8 x1], .bool true]) (results_cell_tmp rfl _ _ X 89 #[.int .i8 x0, .int .i8 x1] (0, 0) _ _ rfl rfl (setRow_heap _ _ _ _ _ _ rs_) Tryd.underlying89 rfl (by kernel_rfl)) rfl ?_
    exact ⟨⟨x0, x1⟩, true, rfl, ⟨wfX_i8 (n := x0) (by omega), wfX_i8 (n := x1) (by omega)⟩, fun q h1 h2 => ⟨rfl, hP.out q h1 h2⟩, kRowW HB.out hXw _⟩
end Go.Proofs.YthngnbaoaeomeaaDoor
