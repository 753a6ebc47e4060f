/- Networks: the tables of all nodes; both sides. -/
import Derived.Test.YtlbnhdnmcnfgdaaNt
namespace Go.Proofs.Ytlbnhdnmcnfgdaa
open Go.ChangeShapes Go.WideShapes Go.ChangeAt Go.RowKit Go.Joins Go.Deep
set_option linter.unusedVariables false
set_option linter.unusedSimpArgs false

theorem nilU_owns {w : World} {base : Nat} {e : TypeId} : w.ownsRow base e 1 (.slice none 0 0) 0 (flatUs []) := ⟨by simp [flatUs], .inl ⟨rfl, rfl⟩⟩
theorem slUs_of_owns {w : World} {base n : Nat} {e : TypeId} {v : Value} {l : List Int} (h : w.ownsRow base e 1 v n (flatUs l)) : SlUs w l v := (SlWUs.of_owns h).sl

set_option maxRecDepth 100000 in
set_option maxHeartbeats 4000000 in
theorem tableOf_any (n : Nat) (va : Option Addr) (m cap : Nat) (acc : List Int) (x : Nd) (w : World) (hn : 1 ≤ n ∧ n ≤ 6) (hm : acc.length = m) (hmm : m ≤ 80) (hs : SlUs w acc (.slice va m cap)) (hx : nodeOk n m x = true) :
    Calls Try.prog 96 #[.agg #[.int .i8 n, .slice va m cap], .agg #[.int .i8 x.kind, .int .i16 x.a, .int .i16 x.b]] w fun e w' => e = .returned (.int .u64 (tabOf n acc x)) ∧ Below w.heap.size w w' := by
  obtain ⟨xk, xa, xb⟩ := x
  rcases nodeOk_cases hx with ⟨k0, hA, hB⟩ | ⟨k1, hA, hB⟩ | ⟨k2, hA, hB⟩
  · simp only at k0 hA hB
    obtain ⟨a, rfl⟩ : ∃ a : Nat, xa = a := ⟨xa.toNat, by omega⟩
    subst k0 hB
    have e : tabOf n acc ⟨0, a, 0⟩ = inT a (2 ^ n) := by unfold tabOf; rw [if_pos rfl]; rfl
    rw [e]
    clear hs hx e hm
    obtain ⟨W, hW⟩ : ∃ W, ((w.alloc (.cells #[.int .i8 n, .slice va m cap] 132)).alloc (.cells #[.int .i8 0, .int .i16 a, .int .i16 0] 83)).alloc (.cells #[.func (.func 103) #[] #[], .func (.func 104) #[] #[], .func (.func 105) #[] #[], .func (.func 106) #[] #[]] 148) = W := ⟨_, rfl⟩
    have kW : Below w.heap.size w W := by rw [← hW]; exact kAlloc (kAlloc (kAlloc (Below.refl _ _) _) _) _
    have bS : W.heap[w.heap.size]? = some (.cells #[.int .i8 n, .slice va m cap] 132 (0, 0)) := by
      rw [← hW]; exact blk_below (nNew _ _) (kAlloc (kAlloc (Below.refl _ _) _) _)
    have bN : W.heap[w.heap.size + 1]? = some (.cells #[.int .i8 0, .int .i16 a, .int .i16 0] 83 (0, 0)) := by
      rw [← hW]
      have h := nNew (w.alloc (.cells #[.int .i8 n, .slice va m cap] 132)) (.cells #[.int .i8 0, .int .i16 a, .int .i16 0] 83)
      simp only [World.size_alloc] at h
      exact blk_below h (kAlloc (Below.refl _ _) _)
    have bK : W.heap[w.heap.size + 1 + 1]? = some (.cells #[.func (.func 103) #[] #[], .func (.func 104) #[] #[], .func (.func 105) #[] #[], .func (.func 106) #[] #[]] 148 (0, 0)) := by
      rw [← hW]
      have h := nNew ((w.alloc (.cells #[.int .i8 n, .slice va m cap] 132)).alloc (.cells #[.int .i8 0, .int .i16 a, .int .i16 0] 83)) (.cells #[.func (.func 103) #[] #[], .func (.func 104) #[] #[], .func (.func 105) #[] #[], .func (.func 106) #[] #[]] 148)
      simpa only [World.size_alloc] using h
    have s0 : W.cell? ⟨w.heap.size, 0, none⟩ = some (.int .i8 n) := cell_of_row _ _ 0 _ _ _ bS
    have s1 : W.cell? ⟨w.heap.size, 1, none⟩ = some (.slice va m cap) := cell_of_row _ _ 1 _ _ _ bS
    have n0 : W.cell? ⟨w.heap.size + 1, 0, none⟩ = some (.int .i8 0) := cell_of_row _ _ 0 _ _ _ bN
    have n1 : W.cell? ⟨w.heap.size + 1, 1, none⟩ = some (.int .i16 a) := cell_of_row _ _ 1 _ _ _ bN
    have n2 : W.cell? ⟨w.heap.size + 1, 2, none⟩ = some (.int .i16 0) := cell_of_row _ _ 2 _ _ _ bN
    have c0 : W.cell? ⟨w.heap.size + 1 + 1, 0, none⟩ = some (.func (.func 103) #[] #[]) := cell_of_row _ _ 0 _ _ _ bK
    have c1 : W.cell? ⟨w.heap.size + 1 + 1, 1, none⟩ = some (.func (.func 104) #[] #[]) := cell_of_row _ _ 1 _ _ _ bK
    have c2 : W.cell? ⟨w.heap.size + 1 + 1, 2, none⟩ = some (.func (.func 105) #[] #[]) := cell_of_row _ _ 2 _ _ _ bK
    have c3 : W.cell? ⟨w.heap.size + 1 + 1, 3, none⟩ = some (.func (.func 106) #[] #[]) := cell_of_row _ _ 3 _ _ _ bK
    have HW := Lib.hid hW
    have KW := Lib.hid kW
    clear bS bN bK hW kW
    go_enter Try.func96, Try.ntmps96
    go_upto_region 2 with fail
    try rw [HW.out]
    go_still_tail 6, (by kernel_rfl)
    change wpList _ _ _ _ _ W.drew
    have kD : Below w.heap.size w W.drew := Below.drew KW.out
    generalize W.drew = W2 at kD ⊢
    clear s0 s1 n0 n1 n2 c0 c1 c2 c3 HW KW
    go_wp2_with fail
    refine (sheetInput_any n a 0 0 va m cap _ hn (by omega)).mono ?_
    rintro e w1 ⟨rfl, hb⟩
    go_wp2
    go_ret
    exact ⟨rfl, kTrans kD hb⟩
  · simp only at k1 hA hB
    subst k1 hA hB
    have e : tabOf n acc ⟨1, 0, 0⟩ = fullT n := rfl
    rw [e]
    clear hs hx e hm
    obtain ⟨W, hW⟩ : ∃ W, ((w.alloc (.cells #[.int .i8 n, .slice va m cap] 132)).alloc (.cells #[.int .i8 1, .int .i16 0, .int .i16 0] 83)).alloc (.cells #[.func (.func 103) #[] #[], .func (.func 104) #[] #[], .func (.func 105) #[] #[], .func (.func 106) #[] #[]] 148) = W := ⟨_, rfl⟩
    have kW : Below w.heap.size w W := by rw [← hW]; exact kAlloc (kAlloc (kAlloc (Below.refl _ _) _) _) _
    have bS : W.heap[w.heap.size]? = some (.cells #[.int .i8 n, .slice va m cap] 132 (0, 0)) := by
      rw [← hW]; exact blk_below (nNew _ _) (kAlloc (kAlloc (Below.refl _ _) _) _)
    have bN : W.heap[w.heap.size + 1]? = some (.cells #[.int .i8 1, .int .i16 0, .int .i16 0] 83 (0, 0)) := by
      rw [← hW]
      have h := nNew (w.alloc (.cells #[.int .i8 n, .slice va m cap] 132)) (.cells #[.int .i8 1, .int .i16 0, .int .i16 0] 83)
      simp only [World.size_alloc] at h
      exact blk_below h (kAlloc (Below.refl _ _) _)
    have bK : W.heap[w.heap.size + 1 + 1]? = some (.cells #[.func (.func 103) #[] #[], .func (.func 104) #[] #[], .func (.func 105) #[] #[], .func (.func 106) #[] #[]] 148 (0, 0)) := by
      rw [← hW]
      have h := nNew ((w.alloc (.cells #[.int .i8 n, .slice va m cap] 132)).alloc (.cells #[.int .i8 1, .int .i16 0, .int .i16 0] 83)) (.cells #[.func (.func 103) #[] #[], .func (.func 104) #[] #[], .func (.func 105) #[] #[], .func (.func 106) #[] #[]] 148)
      simpa only [World.size_alloc] using h
    have s0 : W.cell? ⟨w.heap.size, 0, none⟩ = some (.int .i8 n) := cell_of_row _ _ 0 _ _ _ bS
    have s1 : W.cell? ⟨w.heap.size, 1, none⟩ = some (.slice va m cap) := cell_of_row _ _ 1 _ _ _ bS
    have n0 : W.cell? ⟨w.heap.size + 1, 0, none⟩ = some (.int .i8 1) := cell_of_row _ _ 0 _ _ _ bN
    have n1 : W.cell? ⟨w.heap.size + 1, 1, none⟩ = some (.int .i16 0) := cell_of_row _ _ 1 _ _ _ bN
    have n2 : W.cell? ⟨w.heap.size + 1, 2, none⟩ = some (.int .i16 0) := cell_of_row _ _ 2 _ _ _ bN
    have c0 : W.cell? ⟨w.heap.size + 1 + 1, 0, none⟩ = some (.func (.func 103) #[] #[]) := cell_of_row _ _ 0 _ _ _ bK
    have c1 : W.cell? ⟨w.heap.size + 1 + 1, 1, none⟩ = some (.func (.func 104) #[] #[]) := cell_of_row _ _ 1 _ _ _ bK
    have c2 : W.cell? ⟨w.heap.size + 1 + 1, 2, none⟩ = some (.func (.func 105) #[] #[]) := cell_of_row _ _ 2 _ _ _ bK
    have c3 : W.cell? ⟨w.heap.size + 1 + 1, 3, none⟩ = some (.func (.func 106) #[] #[]) := cell_of_row _ _ 3 _ _ _ bK
    have HW := Lib.hid hW
    have KW := Lib.hid kW
    clear bS bN bK hW kW
    go_enter Try.func96, Try.ntmps96
    go_upto_region 2 with fail
    try rw [HW.out]
    go_still_tail 6, (by kernel_rfl)
    change wpList _ _ _ _ _ W.drew
    have kD : Below w.heap.size w W.drew := Below.drew KW.out
    generalize W.drew = W2 at kD ⊢
    clear s0 s1 n0 n1 n2 c0 c1 c2 c3 HW KW
    go_wp2_with fail
    refine (sheetOne_any n 1 0 0 va m cap _ hn).mono ?_
    rintro e w1 ⟨rfl, hb⟩
    go_wp2
    go_ret
    exact ⟨rfl, kTrans kD hb⟩
  · simp only at k2 hA hB
    obtain ⟨a, rfl⟩ : ∃ a : Nat, xa = a := ⟨xa.toNat, by omega⟩
    obtain ⟨b, rfl⟩ : ∃ b : Nat, xb = b := ⟨xb.toNat, by omega⟩
    have hs2 : ∃ bb oo, va = some ⟨bb, oo, none⟩ ∧ UssAt w bb oo acc ∧ bb < w.heap.size ∧ m ≤ cap := by
      generalize hv : Value.slice va m cap = v at hs
      cases hs with
      | empty _ _ h => rw [h] at hm; simp at hm; omega
      | mk bb oo cc h1 h2 h3 =>
        cases hv
        exact ⟨bb, oo, rfl, h1, h2, h3⟩
    obtain ⟨bb, oo, rfl, hc, hbb, hcap⟩ := hs2
    clear hs
    have HC := Lib.hid (fun W (hW : Below w.heap.size w W) => hc.below hW hbb)
    have hz := fun W (hW : Below w.heap.size w W) => Nat.lt_of_lt_of_le hbb hW.size
    clear hc hx
    rcases k2 with k2 | k2
    · subst k2
      have e : tabOf n acc ⟨2, a, b⟩ = Go.bits .or .u64 (acc.getD a 0) (acc.getD b 0) := rfl
      rw [e]
      clear e
      obtain ⟨W, hW⟩ : ∃ W, ((w.alloc (.cells #[.int .i8 n, .slice (some ⟨bb, oo, none⟩) m cap] 132)).alloc (.cells #[.int .i8 2, .int .i16 a, .int .i16 b] 83)).alloc (.cells #[.func (.func 103) #[] #[], .func (.func 104) #[] #[], .func (.func 105) #[] #[], .func (.func 106) #[] #[]] 148) = W := ⟨_, rfl⟩
      have kW : Below w.heap.size w W := by rw [← hW]; exact kAlloc (kAlloc (kAlloc (Below.refl _ _) _) _) _
      have bS : W.heap[w.heap.size]? = some (.cells #[.int .i8 n, .slice (some ⟨bb, oo, none⟩) m cap] 132 (0, 0)) := by
        rw [← hW]; exact blk_below (nNew _ _) (kAlloc (kAlloc (Below.refl _ _) _) _)
      have bN : W.heap[w.heap.size + 1]? = some (.cells #[.int .i8 2, .int .i16 a, .int .i16 b] 83 (0, 0)) := by
        rw [← hW]
        have h := nNew (w.alloc (.cells #[.int .i8 n, .slice (some ⟨bb, oo, none⟩) m cap] 132)) (.cells #[.int .i8 2, .int .i16 a, .int .i16 b] 83)
        simp only [World.size_alloc] at h
        exact blk_below h (kAlloc (Below.refl _ _) _)
      have bK : W.heap[w.heap.size + 1 + 1]? = some (.cells #[.func (.func 103) #[] #[], .func (.func 104) #[] #[], .func (.func 105) #[] #[], .func (.func 106) #[] #[]] 148 (0, 0)) := by
        rw [← hW]
        have h := nNew ((w.alloc (.cells #[.int .i8 n, .slice (some ⟨bb, oo, none⟩) m cap] 132)).alloc (.cells #[.int .i8 2, .int .i16 a, .int .i16 b] 83)) (.cells #[.func (.func 103) #[] #[], .func (.func 104) #[] #[], .func (.func 105) #[] #[], .func (.func 106) #[] #[]] 148)
        simpa only [World.size_alloc] using h
      have s0 : W.cell? ⟨w.heap.size, 0, none⟩ = some (.int .i8 n) := cell_of_row _ _ 0 _ _ _ bS
      have s1 : W.cell? ⟨w.heap.size, 1, none⟩ = some (.slice (some ⟨bb, oo, none⟩) m cap) := cell_of_row _ _ 1 _ _ _ bS
      have n0 : W.cell? ⟨w.heap.size + 1, 0, none⟩ = some (.int .i8 2) := cell_of_row _ _ 0 _ _ _ bN
      have n1 : W.cell? ⟨w.heap.size + 1, 1, none⟩ = some (.int .i16 a) := cell_of_row _ _ 1 _ _ _ bN
      have n2 : W.cell? ⟨w.heap.size + 1, 2, none⟩ = some (.int .i16 b) := cell_of_row _ _ 2 _ _ _ bN
      have c0 : W.cell? ⟨w.heap.size + 1 + 1, 0, none⟩ = some (.func (.func 103) #[] #[]) := cell_of_row _ _ 0 _ _ _ bK
      have c1 : W.cell? ⟨w.heap.size + 1 + 1, 1, none⟩ = some (.func (.func 104) #[] #[]) := cell_of_row _ _ 1 _ _ _ bK
      have c2 : W.cell? ⟨w.heap.size + 1 + 1, 2, none⟩ = some (.func (.func 105) #[] #[]) := cell_of_row _ _ 2 _ _ _ bK
      have c3 : W.cell? ⟨w.heap.size + 1 + 1, 3, none⟩ = some (.func (.func 106) #[] #[]) := cell_of_row _ _ 3 _ _ _ bK
      have HW := Lib.hid hW
      have KW := Lib.hid kW
      clear bS bN bK hW kW
      go_enter Try.func96, Try.ntmps96
      go_upto_region 2 with fail
      try rw [HW.out]
      go_still_tail 6, (by kernel_rfl)
      change wpList _ _ _ _ _ W.drew
      have kD : Below w.heap.size w W.drew := Below.drew KW.out
      generalize W.drew = W2 at kD ⊢
      clear s0 s1 n0 n1 n2 c0 c1 c2 c3 HW KW
      go_wp2_with fail
      refine (sheetOr_any n bb oo cap m a b 2 acc _ hm (HC.out _ kD) (hz _ kD) hcap (by omega) (by omega) hmm).mono ?_
      rintro e w1 ⟨rfl, hb⟩
      go_wp2
      go_ret
      exact ⟨rfl, kTrans kD hb⟩
    · subst k2
      have e : tabOf n acc ⟨3, a, b⟩ = Go.bits .andNot .u64 (acc.getD a 0) (acc.getD b 0) := rfl
      rw [e]
      clear e
      obtain ⟨W, hW⟩ : ∃ W, ((w.alloc (.cells #[.int .i8 n, .slice (some ⟨bb, oo, none⟩) m cap] 132)).alloc (.cells #[.int .i8 3, .int .i16 a, .int .i16 b] 83)).alloc (.cells #[.func (.func 103) #[] #[], .func (.func 104) #[] #[], .func (.func 105) #[] #[], .func (.func 106) #[] #[]] 148) = W := ⟨_, rfl⟩
      have kW : Below w.heap.size w W := by rw [← hW]; exact kAlloc (kAlloc (kAlloc (Below.refl _ _) _) _) _
      have bS : W.heap[w.heap.size]? = some (.cells #[.int .i8 n, .slice (some ⟨bb, oo, none⟩) m cap] 132 (0, 0)) := by
        rw [← hW]; exact blk_below (nNew _ _) (kAlloc (kAlloc (Below.refl _ _) _) _)
      have bN : W.heap[w.heap.size + 1]? = some (.cells #[.int .i8 3, .int .i16 a, .int .i16 b] 83 (0, 0)) := by
        rw [← hW]
        have h := nNew (w.alloc (.cells #[.int .i8 n, .slice (some ⟨bb, oo, none⟩) m cap] 132)) (.cells #[.int .i8 3, .int .i16 a, .int .i16 b] 83)
        simp only [World.size_alloc] at h
        exact blk_below h (kAlloc (Below.refl _ _) _)
      have bK : W.heap[w.heap.size + 1 + 1]? = some (.cells #[.func (.func 103) #[] #[], .func (.func 104) #[] #[], .func (.func 105) #[] #[], .func (.func 106) #[] #[]] 148 (0, 0)) := by
        rw [← hW]
        have h := nNew ((w.alloc (.cells #[.int .i8 n, .slice (some ⟨bb, oo, none⟩) m cap] 132)).alloc (.cells #[.int .i8 3, .int .i16 a, .int .i16 b] 83)) (.cells #[.func (.func 103) #[] #[], .func (.func 104) #[] #[], .func (.func 105) #[] #[], .func (.func 106) #[] #[]] 148)
        simpa only [World.size_alloc] using h
      have s0 : W.cell? ⟨w.heap.size, 0, none⟩ = some (.int .i8 n) := cell_of_row _ _ 0 _ _ _ bS
      have s1 : W.cell? ⟨w.heap.size, 1, none⟩ = some (.slice (some ⟨bb, oo, none⟩) m cap) := cell_of_row _ _ 1 _ _ _ bS
      have n0 : W.cell? ⟨w.heap.size + 1, 0, none⟩ = some (.int .i8 3) := cell_of_row _ _ 0 _ _ _ bN
      have n1 : W.cell? ⟨w.heap.size + 1, 1, none⟩ = some (.int .i16 a) := cell_of_row _ _ 1 _ _ _ bN
      have n2 : W.cell? ⟨w.heap.size + 1, 2, none⟩ = some (.int .i16 b) := cell_of_row _ _ 2 _ _ _ bN
      have c0 : W.cell? ⟨w.heap.size + 1 + 1, 0, none⟩ = some (.func (.func 103) #[] #[]) := cell_of_row _ _ 0 _ _ _ bK
      have c1 : W.cell? ⟨w.heap.size + 1 + 1, 1, none⟩ = some (.func (.func 104) #[] #[]) := cell_of_row _ _ 1 _ _ _ bK
      have c2 : W.cell? ⟨w.heap.size + 1 + 1, 2, none⟩ = some (.func (.func 105) #[] #[]) := cell_of_row _ _ 2 _ _ _ bK
      have c3 : W.cell? ⟨w.heap.size + 1 + 1, 3, none⟩ = some (.func (.func 106) #[] #[]) := cell_of_row _ _ 3 _ _ _ bK
      have HW := Lib.hid hW
      have KW := Lib.hid kW
      clear bS bN bK hW kW
      go_enter Try.func96, Try.ntmps96
      go_upto_region 2 with fail
      try rw [HW.out]
      go_still_tail 6, (by kernel_rfl)
      change wpList _ _ _ _ _ W.drew
      have kD : Below w.heap.size w W.drew := Below.drew KW.out
      generalize W.drew = W2 at kD ⊢
      clear s0 s1 n0 n1 n2 c0 c1 c2 c3 HW KW
      go_wp2_with fail
      refine (sheetUnless_any n bb oo cap m a b 3 acc _ hm (HC.out _ kD) (hz _ kD) hcap (by omega) (by omega) hmm).mono ?_
      rintro e w1 ⟨rfl, hb⟩
      go_wp2
      go_ret
      exact ⟨rfl, kTrans kD hb⟩
end Go.Proofs.Ytlbnhdnmcnfgdaa
