/- slices.Grow at the nil slice and slices.Concat of two slices. -/
import Derived.Test.YtlmnoopoohdbkaaG4
import Derived.Shelf.Spec.SlicesGrow
namespace Go.Proofs.Ytlmnoopoohdbkaa
open Go.ChangeShapes Go.WideShapes Go.ChangeAt Go.RowKit Go.Joins Go.Deep
set_option linter.unusedVariables false
set_option linter.unusedSimpArgs false
theorem infoCcPc : (Try.prog.info? 66).map (fun i => (i.zero, i.size, i.bytes)) = some (some (.agg #[.int .i8 0, .int .i8 0, .int .i8 0, .int .i8 0, .int .i8 0]), 5, 5) := by kernel_rfl
set_option maxRecDepth 100000 in
set_option maxHeartbeats 4000000 in
theorem growPc_any (n : Nat) (w : World) (h0 : 1 ≤ n) (h1 : n ≤ 1000) :
    Calls Try.prog 104 #[.slice none 0 0, .int .i64 n] w fun e w' => ∃ v, e = .returned v ∧ w'.ownsRow w.heap.size 66 5 v 0 [] ∧ Below w.heap.size w w' := by
  obtain ⟨i0, hi0, hz0, hs0, hb0⟩ := info_parts infoCcPc
  have z25 : ∀ w, (Go.sizeOf 66).run Try.prog w = .ok 5 w := fun w => by simp [Go.sizeOf, typeInfo, hi0, hs0]
  have hold : (Builtin.firstCells i0.size 0 (.slice none 0 0)).run Try.prog w.drew = .ok #[] w.drew := run_firstCells_none w.drew i0.size 0 0 0
  have hrz : ∀ ty, (Builtin.append_ #[28, 3] ty #[.slice none 0 0, .int .i64 n]).run Try.prog w =
      .ok (.slice (some ⟨w.heap.size, 0, none⟩) n (grownCap w n 0 66)) (w.drew.alloc (.cells (Builtin.zeroCells (.agg #[.int .i8 0, .int .i8 0, .int .i8 0, .int .i8 0, .int .i8 0] : Value).cells n ++ Builtin.zeroCells (.agg #[.int .i8 0, .int .i8 0, .int .i8 0, .int .i8 0, .int .i8 0] : Value).cells (grownCap w n 0 66 - n)) 66)) := fun ty => by
    have h := Lib.run_append_grow_zeros w 28 3 ty 66 i0 _ .i64 .i64 Try.underlying28 Try.underlying3 hi0 hz0 none 0 0 [] hold n (by omega) (by rw [hs0]; decide) (by omega) (by omega)
      (by rw [hb0]; omega) (by rw [Nat.zero_add]; exact growslice_fits (by omega) (by rw [hb0]; omega))
    simpa using h
  have hGn : n ≤ grownCap w n 0 66 := grownCap_ge w _ _ _
  have hGm : grownCap w n 0 66 ≤ maxLen := grownCap_le_maxLen w n 0 66 (by unfold maxLen; omega)
  obtain ⟨G, hG⟩ : ∃ G, grownCap w n 0 66 = G := ⟨_, rfl⟩
  rw [hG] at hrz hGn hGm
  obtain ⟨w1, hw1⟩ : ∃ w1, w.drew.alloc (.cells (Builtin.zeroCells (.agg #[.int .i8 0, .int .i8 0, .int .i8 0, .int .i8 0, .int .i8 0] : Value).cells n ++ Builtin.zeroCells (.agg #[.int .i8 0, .int .i8 0, .int .i8 0, .int .i8 0, .int .i8 0] : Value).cells (G - n)) 66) = w1 := ⟨_, rfl⟩
  have hO : w1.ownsRow w.heap.size 66 5 (.slice (some ⟨w.heap.size, 0, none⟩) 0 G) 0 [] := by
    rw [← hw1]
    exact ⟨by simp, .inr ⟨w.heap.size, G, _, rfl, Nat.le_refl _, heap_alloc_new w.drew _, Nat.zero_le _, hGm, by simp [Builtin.zeroCells, Value.cells]; omega, by simp⟩⟩
  have hB : Below w.heap.size w w1 := by rw [← hw1]; exact kAlloc (Below.drew (Below.refl _ _)) _
  rw [hw1] at hrz
  have HO := Lib.hid hO
  have HB := Lib.hid hB
  have hG63 : G ≤ 9223372036854775807 := by unfold maxLen at hGm; omega
  have hn0 : ¬ ((n : Int) < 0) := by omega
  have hn1 : 0 < (n : Int) := by omega
  have hn4 : (n : Int) ≤ 1000 := by omega
  have hn3 : (n : Int).toNat = n := by omega
  clear hold hG hO hB hw1 z25 hi0 hz0 hs0 hb0 hGm
  go_enter Try.func104, Try.ntmps104
  go_wp2_with (at_builtin; refine Lib.wpList_append_run _ rfl _ _ _ _ rfl _ _ rfl rfl _ _ (hrz _) ?_)
  go_ret
  exact ⟨_, rfl, HO.out, HB.out⟩
set_option maxRecDepth 100000 in
set_option maxHeartbeats 4000000 in
theorem growPc_all (n : Nat) (w : World) (h1 : n ≤ 1000) :
    Calls Try.prog 104 #[.slice none 0 0, .int .i64 n] w fun e w' => ∃ v, e = .returned v ∧ w'.ownsRow w.heap.size 66 5 v 0 [] ∧ Below w.heap.size w w' := by
  by_cases h0 : 1 ≤ n
  · exact growPc_any n w h0 h1
  · obtain rfl : n = 0 := by omega
    clear h0 h1
    go_enter Try.func104, Try.ntmps104
    go_wp2
    go_ret
    exact ⟨_, rfl, ⟨by simp, .inl ⟨rfl, rfl⟩⟩, Below.refl _ _⟩
set_option maxRecDepth 100000 in
set_option maxHeartbeats 4000000 in
theorem concatPc_any (q : Nat) (a1 a2 : Addr) (n1 n2 c1 c2 : Nat) (x1 x2 : List Value) (w : World) (h1 : w.cell? ⟨q, 0, none⟩ = some (.slice (some a1) n1 c1)) (h2 : w.cell? ⟨q, 1, none⟩ = some (.slice (some a2) n2 c2)) (hq : q < w.heap.size)
    (hl1 : x1.length = n1 * 5) (hl2 : x2.length = n2 * 5) (hx1 : ∀ W, Below w.heap.size w W → ∀ j u, x1[j]? = some u → W.cell? (a1.add j) = some u) (hx2 : ∀ W, Below w.heap.size w W → ∀ j u, x2[j]? = some u → W.cell? (a2.add j) = some u)
    (ho1 : ∀ u ∈ x1, u.oneCell' = true) (ho2 : ∀ u ∈ x2, u.oneCell' = true) (hn1 : n1 ≤ 400) (hn2 : n2 ≤ 400) :
    Calls Try.prog 62 #[.slice (some ⟨q, 0, none⟩) 2 2] w fun e w' => ∃ v, e = .returned v ∧ w'.ownsRow w.heap.size 66 5 v (n1 + n2) (x1 ++ x2) ∧ Below w.heap.size w w' := by
  obtain ⟨i0, hi0, hz0, hs0, hb0⟩ := info_parts infoCcPc
  have Hi := Lib.hid hi0
  have Hz := Lib.hid hz0
  have Hs := Lib.hid hs0
  have Hb := Lib.hid hb0
  have HX1 := Lib.hid hx1
  have HX2 := Lib.hid hx2
  have HO1 := Lib.hid ho1
  have HO2 := Lib.hid ho2
  have HL1 := Lib.hid hl1
  have HL2 := Lib.hid hl2
  have HG := Lib.hid (by have h := growPc_all (n1 + n2) w (by omega); rw [Int.natCast_add] at h; exact h)
  have HC := Lib.hid (fun W (hW : Below w.heap.size w W) => (show W.cell? ⟨q, 0, none⟩ = some (.slice (some a1) n1 c1) ∧ W.cell? ⟨q, 1, none⟩ = some (.slice (some a2) n2 c2) ∧ q < W.heap.size from ⟨(hW.cell (p := ⟨q, 0, none⟩) hq).trans h1, (hW.cell (p := ⟨q, 1, none⟩) hq).trans h2, Nat.lt_of_lt_of_le hq hW.size⟩))
  have e1 : (n1 : Int) ≤ 400 := by omega
  have e2 : (n2 : Int) ≤ 400 := by omega
  clear hi0 hz0 hs0 hb0 hx1 hx2 ho1 ho2 hl1 hl2
  go_enter Try.func62, Try.ntmps62
  go_wp2
  refine wp_loop_rounds 3 ?_
  rw [rounds_succ]; go_wp2
  rw [rounds_succ]; go_wp2
  rw [rounds_succ]; go_wp2_with fail
  refine (HG.out).mono ?_
  rintro e w1 ⟨v, rfl, hv, hb1⟩
  obtain ⟨c1', c2', hq'⟩ := HC.out w1 hb1
  have HV := Lib.hid hv
  have HB1 := Lib.hid hb1
  clear hv h1 h2 hq HG hb1
  go_wp2
  refine wp_loop_rounds 3 ?_
  obtain ⟨va, vc, rfl⟩ := owns_slice HV.out
  rw [rounds_succ]
  go_wp2_with (at_builtin; refine wpList_append_own _ rfl _ _ 28 rfl w.heap.size 66 i0 _ 5 5 Try.underlying28 Hi.out Hz.out Hs.out Hb.out rfl (by decide) (.slice va 0 vc) (0) ([]) rfl HV.out a1 n1 c1 x1 rfl HL1.out (HX1.out _ HB1.out) HO1.out ?c11 ?c12 ?c13 ?_)
  case c11 => unfold maxLen; omega
  case c12 => omega
  case c13 => exact HB1.out.size
  intro v2 w2 hv2 hg2 hnil2
  have HB2 := Lib.hid (grown_below HB1.out hg2 (fun k hk => (HV.out.lt k hk).1))
  have HV2 := Lib.hid hv2
  clear HV HB1 hv2 hg2 hnil2 c1' c2' hq'
  obtain ⟨c1', c2', hq'⟩ := HC.out w2 HB2.out
  obtain ⟨ua, uc, rfl⟩ := owns_slice HV2.out
  go_wp2
  rw [rounds_succ]
  go_wp2_with (at_builtin; refine wpList_append_own _ rfl _ _ 28 rfl w.heap.size 66 i0 _ 5 5 Try.underlying28 Hi.out Hz.out Hs.out Hb.out rfl (by decide) (.slice ua n1 uc) (n1) (x1) rfl HV2.out a2 n2 c2 x2 rfl HL2.out (HX2.out _ HB2.out) HO2.out ?c21 ?c22 ?c23 ?_)
  case c21 => unfold maxLen; omega
  case c22 => omega
  case c23 => exact HB2.out.size
  intro v3 w3 hv3 hg3 hnil3
  have HB3 := Lib.hid (grown_below HB2.out hg3 (fun k hk => (HV2.out.lt k hk).1))
  have HV3 := Lib.hid hv3
  clear HV2 HB2 hv3 hg3 hnil3 c1' c2' hq'
  go_wp2
  rw [rounds_succ]
  go_wp2
  go_ret
  exact ⟨_, rfl, HV3.out, HB3.out⟩
end Go.Proofs.Ytlmnoopoohdbkaa
