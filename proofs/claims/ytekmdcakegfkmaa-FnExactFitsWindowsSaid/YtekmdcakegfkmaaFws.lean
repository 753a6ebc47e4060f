/- Falls and windows: FitsWindows. -/
import Derived.Test.YtekmdcakegfkmaaFw
import Derived.Test.YtekmdcakegfkmaaG2
import Derived.Deep.DeepCutAuto
namespace Go.Proofs.Ytekmdcakegfkmaa
open Go.ChangeShapes Go.WideShapes Go.ChangeAt Go.RowKit Go.Joins Go.Deep
set_option linter.unusedVariables false
set_option linter.unusedSimpArgs false
/-- the first fall that does not fit -/
def misfit : List Wn → List Fl → Int → Int × Int
  | p :: l, f :: m, i => if fitB p f = true then misfit l m (i + 1) else (i, 0)
  | _, _, _ => (0, 6)
def fitsQ (l1 : List Wn) (l2 : List Fl) : Int × Int := if l1.length = l2.length then misfit l1 l2 0 else (0, 2)
theorem pair_FW {a b c d : Int} (h : (a, b) = (c, d)) : a = c ∧ b = d := by injection h with h1 h2; exact ⟨h1, h2⟩
set_option maxRecDepth 100000 in
set_option maxHeartbeats 8000000 in
theorem implFitsWindows_eq (b1 b2 n : Nat) (l1 : List Wn) (l2 : List Fl) (w : World) (hn1 : l1.length = n) (hn2 : l2.length = n) (h1 : WnsAt w b1 0 l1) (h2 : FlsAt w b2 0 l2) (hb1 : b1 < w.heap.size) (hb2 : b2 < w.heap.size) (h8 : WnsWf l1) (h9 : FlsWf l2) (hmax : n ≤ 1048576) (E C : Int) (hQ : fitsQ l1 l2 = (E, C)) :
    Calls Try.prog 36 #[.slice (some ⟨b1, 0, none⟩) n n, .slice (some ⟨b2, 0, none⟩) n n] w fun e w' => e = .returned (.tuple #[.int .i64 E, .int .i64 C]) ∧ Below w.heap.size w w' := by
  have Hn1 := Lib.hid hn1
  have Hn2 := Lib.hid hn2
  have H8 := Lib.hid h8
  have H9 := Lib.hid h9
  have HQ0 : Hid (misfit (l1.drop 0) (l2.drop 0) (0 : Nat) = (E, C)) := Lib.hid (by unfold fitsQ at hQ; rw [if_pos (by omega)] at hQ; exact hQ)
  clear hn1 hn2 h8 h9 hQ
  go_enter Try.func36, Try.ntmps36
  go_wp2
  go_loopw [15] (fun i wr => ∃ k : Nat, k ≤ n ∧ i = .int .i64 k ∧ Hid (misfit (l1.drop k) (l2.drop k) (k : Nat) = (E, C)) ∧ Below w.heap.size w wr) (fun i _ => n - (intOf i).toNat)
  case atStart => exact ⟨0, by omega, rfl, HQ0, Below.refl _ _⟩
  case round =>
    clear HQ0
    obtain ⟨k, hk, rfl, hf, hbr⟩ := hrel
    by_cases hlt : k < n
    · have hlk1 : k < l1.length := by rw [Hn1.out]; exact hlt
      have hlk2 : k < l2.length := by rw [Hn2.out]; exact hlt
      have hp1 := (h1.below hbr hb1) k hlk1
      have hp2 := (h2.below hbr hb2) k hlk2
      have HP := Lib.hid (H8.out _ (List.getElem_mem hlk1))
      have HF := Lib.hid (H9.out _ (List.getElem_mem hlk2))
      have hq := hf.out
      rw [List.drop_eq_getElem_cons hlk1, List.drop_eq_getElem_cons hlk2] at hq
      unfold misfit at hq
      generalize l1[k] = p at hp1 HP hq
      generalize l2[k] = f at hp2 HF hq
      have z1 : b1 < wr.heap.size := Nat.lt_of_lt_of_le hb1 hbr.size
      have z2 : b2 < wr.heap.size := Nat.lt_of_lt_of_le hb2 hbr.size
      obtain ⟨R, hR⟩ : ∃ R, fitB p f = R := ⟨_, rfl⟩
      rw [hR] at hq
      have HR := Lib.hid hR
      have HQ := Lib.hid hq
      clear hf hq hR
      obtain ⟨a0, a1, a2, a3⟩ := hp1
      obtain ⟨d0, d1, d2⟩ := hp2
      simp only [Nat.zero_add] at a0 a1 a2 a3 d0 d1 d2
      go_upto_region 6 with fail
      obtain ⟨W0, hW0⟩ : ∃ W0, wr.alloc (.cells #[.int .u8 p.sides, .bool p.sure, .int .i64 p.early, .int .i64 p.late] 53) = W0 := ⟨_, rfl⟩
      try rw [hW0]
      have k0 : Below wr.heap.size wr W0 := by rw [← hW0]; exact kAlloc (Below.refl _ _) _
      have x0 : W0.cell? ⟨wr.heap.size, 0, none⟩ = some (.int .u8 p.sides) := by rw [← hW0]; simp
      have x1 : W0.cell? ⟨wr.heap.size, 1, none⟩ = some (.bool p.sure) := by rw [← hW0]; simp
      have x2 : W0.cell? ⟨wr.heap.size, 2, none⟩ = some (.int .i64 p.early) := by rw [← hW0]; simp
      have x3 : W0.cell? ⟨wr.heap.size, 3, none⟩ = some (.int .i64 p.late) := by rw [← hW0]; simp
      have lx : wr.heap.size < W0.heap.size := by rw [← hW0]; simp
      have e0 := (k0.cell (p := ⟨b2, k * 3, none⟩) z2).trans d0
      have e1 := (k0.cell (p := ⟨b2, k * 3 + 1, none⟩) z2).trans d1
      have e2 := (k0.cell (p := ⟨b2, k * 3 + 2, none⟩) z2).trans d2
      have T0 := kTrans hbr k0
      have l2_ : b2 < W0.heap.size := Nat.lt_of_lt_of_le z2 k0.size
      clear hW0 a0 a1 a2 a3 d0 d1 d2
      refine wp_region_class (fun w' => Below W0.heap.size W0 w') (by kernel_rfl) (by kernel_rfl) (Below.drew (Below.refl _ _)) ?_
      repeat (first
        | go_big_quiet_skip
        | (go_big_quiet_want; go_big_quiet_op; go_big_quiet_on)
        | (refine wpQuiet_step (fun K hK => ?_)
           go_simp
           refine hK _ ?_
           clear hK K)
        | (refine wpQuiet_step (fun K hK => ?_)
           go_simp
           apply Exists.intro
           refine ⟨fun w1 hw1 => ?_, hK _ ?_⟩
           · first
             | exact rfl
             | (go_at_call 32
                (with_reducible refine (implFitsWindow_any p f _ HP.out HF.out R HR.out).mono ?_)
                exact fun e w2 h => ⟨h.1, kTrans hw1 h.2⟩)
             | (
                have gx0 := (hw1.cell (p := ⟨wr.heap.size, 0, none⟩) lx).trans x0
                have gx1 := (hw1.cell (p := ⟨wr.heap.size, 1, none⟩) lx).trans x1
                have gx2 := (hw1.cell (p := ⟨wr.heap.size, 2, none⟩) lx).trans x2
                have gx3 := (hw1.cell (p := ⟨wr.heap.size, 3, none⟩) lx).trans x3
                have ge0 := (hw1.cell (p := ⟨b2, k * 3, none⟩) l2_).trans e0
                have ge1 := (hw1.cell (p := ⟨b2, k * 3 + 1, none⟩) l2_).trans e1
                have ge2 := (hw1.cell (p := ⟨b2, k * 3 + 2, none⟩) l2_).trans e2
                go_simp
                exact rfl)
           clear hK K))
      refine wpQuiet_nil ?_
      intro w3 hw3
      have T3 := kTrans T0 hw3
      clear hw3 T0 HP HF HR
      cases R with
      | true =>
        have HQ2 : Hid (misfit (l1.drop (k + 1)) (l2.drop (k + 1)) ((k + 1 : Nat) : Int) = (E, C)) := Lib.hid (by have h := HQ.out; rw [if_pos rfl] at h; exact h)
        clear HQ
        go_wp2
        exact ⟨⟨k + 1, by omega, by go_num, HQ2, T3⟩, by simp [intOf]; omega⟩
      | false =>
        obtain ⟨rfl, rfl⟩ := pair_FW (show ((k : Int), (0 : Int)) = (E, C) from by have h := HQ.out; rw [if_neg (by decide)] at h; exact h)
        clear HQ
        go_wp2
        exact bodyPost_ret (v := .tuple #[.int .i64 k, .int .i64 0]) (by simp [results, Try.results36, go_sem]) rfl ⟨rfl, T3⟩
    · obtain rfl : k = n := by omega
      obtain ⟨rfl, rfl⟩ := pair_FW (show ((0 : Int), (6 : Int)) = (E, C) from by rw [← hf.out, List.drop_of_length_le (by rw [Hn1.out]; exact Nat.le_refl _)]; rfl)
      clear hf
      go_wp2
      exact bodyPost_ret (v := .tuple #[.int .i64 0, .int .i64 6]) (by simp [results, Try.results36, go_sem]) rfl ⟨rfl, hbr⟩
set_option maxHeartbeats 1000000 in
theorem implFitsWindows_ne (a1 a2 : Option Addr) (n1 n2 c1 c2 : Nat) (w : World) (h1 : n1 ≤ 1048576) (h2 : n2 ≤ 1048576) (h : n1 ≠ n2) :
    Calls Try.prog 36 #[.slice a1 n1 c1, .slice a2 n2 c2] w fun e w' => e = .returned (.tuple #[.int .i64 0, .int .i64 2]) ∧ Below w.heap.size w w' := by
  have hne : ((n1 : Int) != (n2 : Int)) = true := by simpa using (fun e => h (by omega))
  have hne2 : ((n1 : Int) == (n2 : Int)) = false := by simpa using (fun e => h (by omega))
  have hne3 : ¬ n1 = n2 := h
  go_enter Try.func36, Try.ntmps36
  go_wp2
  exact bodyPost_ret (v := .tuple #[.int .i64 0, .int .i64 2]) (by simp [results, Try.results36, go_sem]) rfl ⟨rfl, by repeat (first | with_reducible exact Below.refl _ _ | (with_reducible refine kSet ?_ ?hB _; case hB => (simp; try omega)) | with_reducible refine kAlloc ?_ _ | with_reducible refine Below.drew ?_ | with_reducible refine kDrewN ?_ _ | with_reducible refine kTrans ?_ (by assumption))⟩
theorem implFitsWindows_any (b1 b2 n1 n2 : Nat) (l1 : List Wn) (l2 : List Fl) (w : World) (hn1 : l1.length = n1) (hn2 : l2.length = n2) (h1 : WnsAt w b1 0 l1) (h2 : FlsAt w b2 0 l2) (hb1 : b1 < w.heap.size) (hb2 : b2 < w.heap.size) (h8 : WnsWf l1) (h9 : FlsWf l2) (m1 : n1 ≤ 1048576) (m2 : n2 ≤ 1048576) (E C : Int) (hQ : fitsQ l1 l2 = (E, C)) :
    Calls Try.prog 36 #[.slice (some ⟨b1, 0, none⟩) n1 n1, .slice (some ⟨b2, 0, none⟩) n2 n2] w fun e w' => e = .returned (.tuple #[.int .i64 E, .int .i64 C]) ∧ Below w.heap.size w w' := by
  by_cases he : n1 = n2
  · subst he
    exact implFitsWindows_eq b1 b2 n1 l1 l2 w hn1 hn2 h1 h2 hb1 hb2 h8 h9 m1 E C hQ
  · obtain ⟨rfl, rfl⟩ := pair_FW (show ((0 : Int), (2 : Int)) = (E, C) from by rw [← hQ]; unfold fitsQ; rw [if_neg (by omega)])
    exact implFitsWindows_ne _ _ n1 n2 n1 n2 w m1 m2 he
set_option maxRecDepth 100000 in
set_option maxHeartbeats 8000000 in
theorem specFitsWindows_eq (b1 b2 n : Nat) (l1 : List Wn) (l2 : List Fl) (w : World) (hn1 : l1.length = n) (hn2 : l2.length = n) (h1 : WnsAt w b1 0 l1) (h2 : FlsAt w b2 0 l2) (hb1 : b1 < w.heap.size) (hb2 : b2 < w.heap.size) (h8 : WnsWf l1) (h9 : FlsWf l2) (hmax : n ≤ 1048576) (E C : Int) (hQ : fitsQ l1 l2 = (E, C)) :
    Calls Try.prog 34 #[.slice (some ⟨b1, 0, none⟩) n n, .slice (some ⟨b2, 0, none⟩) n n] w fun e w' => e = .returned (.tuple #[.int .i64 E, .int .i64 C]) ∧ Below w.heap.size w w' := by
  have Hn1 := Lib.hid hn1
  have Hn2 := Lib.hid hn2
  have H8 := Lib.hid h8
  have H9 := Lib.hid h9
  have HQ0 : Hid (misfit (l1.drop 0) (l2.drop 0) (0 : Nat) = (E, C)) := Lib.hid (by unfold fitsQ at hQ; rw [if_pos (by omega)] at hQ; exact hQ)
  clear hn1 hn2 h8 h9 hQ
  go_enter Try.func34, Try.ntmps34
  go_wp2
  go_loopw [6] (fun i wr => ∃ k : Nat, k ≤ n ∧ i = .int .i64 k ∧ Hid (misfit (l1.drop k) (l2.drop k) (k : Nat) = (E, C)) ∧ Below w.heap.size w wr) (fun i _ => n - (intOf i).toNat)
  case atStart => exact ⟨0, by omega, rfl, HQ0, Below.refl _ _⟩
  case round =>
    clear HQ0
    obtain ⟨k, hk, rfl, hf, hbr⟩ := hrel
    by_cases hlt : k < n
    · have hlk1 : k < l1.length := by rw [Hn1.out]; exact hlt
      have hlk2 : k < l2.length := by rw [Hn2.out]; exact hlt
      have hp1 := (h1.below hbr hb1) k hlk1
      have hp2 := (h2.below hbr hb2) k hlk2
      have HP := Lib.hid (H8.out _ (List.getElem_mem hlk1))
      have HF := Lib.hid (H9.out _ (List.getElem_mem hlk2))
      have hq := hf.out
      rw [List.drop_eq_getElem_cons hlk1, List.drop_eq_getElem_cons hlk2] at hq
      unfold misfit at hq
      generalize l1[k] = p at hp1 HP hq
      generalize l2[k] = f at hp2 HF hq
      have z1 : b1 < wr.heap.size := Nat.lt_of_lt_of_le hb1 hbr.size
      have z2 : b2 < wr.heap.size := Nat.lt_of_lt_of_le hb2 hbr.size
      obtain ⟨R, hR⟩ : ∃ R, fitB p f = R := ⟨_, rfl⟩
      rw [hR] at hq
      have HR := Lib.hid hR
      have HQ := Lib.hid hq
      clear hf hq hR
      obtain ⟨a0, a1, a2, a3⟩ := hp1
      obtain ⟨d0, d1, d2⟩ := hp2
      simp only [Nat.zero_add] at a0 a1 a2 a3 d0 d1 d2
      go_upto_region 6 with fail
      obtain ⟨W0, hW0⟩ : ∃ W0, wr = W0 := ⟨_, rfl⟩
      have k0 : Below wr.heap.size wr W0 := by rw [← hW0]; exact Below.refl _ _
      have x0 := (k0.cell (p := ⟨b1, k * 4, none⟩) z1).trans a0
      have x1 := (k0.cell (p := ⟨b1, k * 4 + 1, none⟩) z1).trans a1
      have x2 := (k0.cell (p := ⟨b1, k * 4 + 2, none⟩) z1).trans a2
      have x3 := (k0.cell (p := ⟨b1, k * 4 + 3, none⟩) z1).trans a3
      have e0 := (k0.cell (p := ⟨b2, k * 3, none⟩) z2).trans d0
      have e1 := (k0.cell (p := ⟨b2, k * 3 + 1, none⟩) z2).trans d1
      have e2 := (k0.cell (p := ⟨b2, k * 3 + 2, none⟩) z2).trans d2
      have T0 := kTrans hbr k0
      have lx : b1 < W0.heap.size := Nat.lt_of_lt_of_le z1 k0.size
      have l2_ : b2 < W0.heap.size := Nat.lt_of_lt_of_le z2 k0.size
      clear a0 a1 a2 a3 d0 d1 d2
      rw [hW0]
      clear hW0
      refine wp_region_class (fun w' => Below W0.heap.size W0 w') (by kernel_rfl) (by kernel_rfl) (Below.drew (Below.refl _ _)) ?_
      repeat (first
        | go_big_quiet_skip
        | (go_big_quiet_want; go_big_quiet_op; go_big_quiet_on)
        | (refine wpQuiet_step (fun K hK => ?_)
           go_simp
           refine hK _ ?_
           clear hK K)
        | (refine wpQuiet_step (fun K hK => ?_)
           go_simp
           apply Exists.intro
           refine ⟨fun w1 hw1 => ?_, hK _ ?_⟩
           · first
             | exact rfl
             | (go_at_call 29
                (with_reducible refine (specFitsWindow_any p f _ HP.out HF.out R HR.out).mono ?_)
                exact fun e w2 h => ⟨h.1, kTrans hw1 h.2⟩)
             | (
                have gx0 := (hw1.cell (p := ⟨b1, k * 4, none⟩) lx).trans x0
                have gx1 := (hw1.cell (p := ⟨b1, k * 4 + 1, none⟩) lx).trans x1
                have gx2 := (hw1.cell (p := ⟨b1, k * 4 + 2, none⟩) lx).trans x2
                have gx3 := (hw1.cell (p := ⟨b1, k * 4 + 3, none⟩) lx).trans x3
                have ge0 := (hw1.cell (p := ⟨b2, k * 3, none⟩) l2_).trans e0
                have ge1 := (hw1.cell (p := ⟨b2, k * 3 + 1, none⟩) l2_).trans e1
                have ge2 := (hw1.cell (p := ⟨b2, k * 3 + 2, none⟩) l2_).trans e2
                go_simp
                exact rfl)
           clear hK K))
      refine wpQuiet_nil ?_
      intro w3 hw3
      have T3 := kTrans T0 hw3
      clear hw3 T0 HP HF HR
      cases R with
      | true =>
        have HQ2 : Hid (misfit (l1.drop (k + 1)) (l2.drop (k + 1)) ((k + 1 : Nat) : Int) = (E, C)) := Lib.hid (by have h := HQ.out; rw [if_pos rfl] at h; exact h)
        clear HQ
        go_wp2
        exact ⟨⟨k + 1, by omega, by go_num, HQ2, T3⟩, by simp [intOf]; omega⟩
      | false =>
        obtain ⟨rfl, rfl⟩ := pair_FW (show ((k : Int), (0 : Int)) = (E, C) from by have h := HQ.out; rw [if_neg (by decide)] at h; exact h)
        clear HQ
        go_wp2
        exact bodyPost_ret (v := .tuple #[.int .i64 k, .int .i64 0]) (by simp [results, Try.results34, go_sem]) rfl ⟨rfl, T3⟩
    · obtain rfl : k = n := by omega
      obtain ⟨rfl, rfl⟩ := pair_FW (show ((0 : Int), (6 : Int)) = (E, C) from by rw [← hf.out, List.drop_of_length_le (by rw [Hn1.out]; exact Nat.le_refl _)]; rfl)
      clear hf
      go_wp2
      exact bodyPost_ret (v := .tuple #[.int .i64 0, .int .i64 6]) (by simp [results, Try.results34, go_sem]) rfl ⟨rfl, hbr⟩
set_option maxHeartbeats 1000000 in
theorem specFitsWindows_ne (a1 a2 : Option Addr) (n1 n2 c1 c2 : Nat) (w : World) (h1 : n1 ≤ 1048576) (h2 : n2 ≤ 1048576) (h : n1 ≠ n2) :
    Calls Try.prog 34 #[.slice a1 n1 c1, .slice a2 n2 c2] w fun e w' => e = .returned (.tuple #[.int .i64 0, .int .i64 2]) ∧ Below w.heap.size w w' := by
  have hne : ((n1 : Int) != (n2 : Int)) = true := by simpa using (fun e => h (by omega))
  have hne2 : ((n1 : Int) == (n2 : Int)) = false := by simpa using (fun e => h (by omega))
  have hne3 : ¬ n1 = n2 := h
  go_enter Try.func34, Try.ntmps34
  go_wp2
  exact bodyPost_ret (v := .tuple #[.int .i64 0, .int .i64 2]) (by simp [results, Try.results34, go_sem]) rfl ⟨rfl, by repeat (first | with_reducible exact Below.refl _ _ | (with_reducible refine kSet ?_ ?hB _; case hB => (simp; try omega)) | with_reducible refine kAlloc ?_ _ | with_reducible refine Below.drew ?_ | with_reducible refine kDrewN ?_ _ | with_reducible refine kTrans ?_ (by assumption))⟩
theorem specFitsWindows_any (b1 b2 n1 n2 : Nat) (l1 : List Wn) (l2 : List Fl) (w : World) (hn1 : l1.length = n1) (hn2 : l2.length = n2) (h1 : WnsAt w b1 0 l1) (h2 : FlsAt w b2 0 l2) (hb1 : b1 < w.heap.size) (hb2 : b2 < w.heap.size) (h8 : WnsWf l1) (h9 : FlsWf l2) (m1 : n1 ≤ 1048576) (m2 : n2 ≤ 1048576) (E C : Int) (hQ : fitsQ l1 l2 = (E, C)) :
    Calls Try.prog 34 #[.slice (some ⟨b1, 0, none⟩) n1 n1, .slice (some ⟨b2, 0, none⟩) n2 n2] w fun e w' => e = .returned (.tuple #[.int .i64 E, .int .i64 C]) ∧ Below w.heap.size w w' := by
  by_cases he : n1 = n2
  · subst he
    exact specFitsWindows_eq b1 b2 n1 l1 l2 w hn1 hn2 h1 h2 hb1 hb2 h8 h9 m1 E C hQ
  · obtain ⟨rfl, rfl⟩ := pair_FW (show ((0 : Int), (2 : Int)) = (E, C) from by rw [← hQ]; unfold fitsQ; rw [if_neg (by omega)])
    exact specFitsWindows_ne _ _ n1 n2 n1 n2 w m1 m2 he
end Go.Proofs.Ytekmdcakegfkmaa
