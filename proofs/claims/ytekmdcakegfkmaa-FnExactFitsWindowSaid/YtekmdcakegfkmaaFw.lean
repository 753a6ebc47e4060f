/- Falls and windows: FitsWindow, FitsWindows. -/
import Derived.Test.YtekmdcakegfkmaaWn
import Derived.Test.YtekmdcakegfkmaaG3
namespace Go.Proofs.Ytekmdcakegfkmaa
open Go.ChangeShapes Go.WideShapes Go.ChangeAt Go.RowKit Go.Joins Go.Deep
set_option linter.unusedVariables false
set_option linter.unusedSimpArgs false

theorem open_window {H : Type} {enc : TypeId × Value → H} {P : Program} {w w2 : World} {r : Reach} {b0 base : Nat} {spare : Nat → Bool} {held : Bool} {t : TypeId} {v : Value} {d : DataW H} {p : List MemPlace} {n : Nat}
    (hf : flatM P n t = some [some .u8, none, some .i64, some .i64]) (hs : isAggT P t = true) (hv : Value.okWide P w2 r b0 t v) (h : DataW.Trod enc P w base spare held t v d p) :
    ∃ p : Wn, v = .agg #[.int .u8 p.sides, .bool p.sure, .int .i64 p.early, .int .i64 p.late] ∧ p.wf := by
  obtain ⟨cs, rfl, hi⟩ := open_flatM n hf hs hv h
  obtain ⟨p, e, hp⟩ := ints_Wn hi
  obtain ⟨cs⟩ := cs
  simp only at e
  subst e
  exact ⟨p, rfl, hp⟩
theorem open_fall {H : Type} {enc : TypeId × Value → H} {P : Program} {w w2 : World} {r : Reach} {b0 base : Nat} {spare : Nat → Bool} {held : Bool} {t : TypeId} {v : Value} {d : DataW H} {p : List MemPlace} {n : Nat}
    (hf : flat P n t = some [.i64, .i8, .i64]) (hs : isAggT P t = true) (hv : Value.okWide P w2 r b0 t v) (h : DataW.Trod enc P w base spare held t v d p) :
    ∃ f : Fl, v = .agg #[.int .i64 f.tick, .int .i8 f.frm, .int .i64 f.who] ∧ f.wf := by
  obtain ⟨cs, rfl, hi⟩ := open_flat n hf hs hv h
  obtain ⟨p, e, hp⟩ := ints_Fl hi
  obtain ⟨cs⟩ := cs
  simp only at e
  subst e
  exact ⟨p, rfl, hp⟩
theorem agg_window : isAggT Try.prog 49 = true := by kernel_rfl
theorem agg_fall : isAggT Try.prog 51 = true := by kernel_rfl
def sideB (p : Wn) (n : Nat) : Bool := Go.bits .and .u8 (p.sides / 2 ^ n) 1 == 1
/-- whether a fall fits a window -/
def fitB (p : Wn) (f : Fl) : Bool :=
  if f.tick < 0 then !p.sure else decide (0 ≤ f.frm ∧ f.frm ≤ 3) && (sideB p f.frm.toNat && (decide (p.early ≤ f.tick) && (!p.sure || decide (f.tick ≤ p.late))))
set_option maxRecDepth 100000 in
set_option maxHeartbeats 4000000 in
theorem implFitsWindow_any (p : Wn) (f : Fl) (w : World) (hp : p.wf) (hf : f.wf) (R : Bool) (hR : fitB p f = R) :
    Calls Try.prog 32 #[.agg #[.int .u8 p.sides, .bool p.sure, .int .i64 p.early, .int .i64 p.late], .agg #[.int .i64 f.tick, .int .i8 f.frm, .int .i64 f.who]] w fun e w' => e = .returned (.bool R) ∧ Below w.heap.size w w' := by
  have bs := bounds_u8 hp.1
  have bf := bounds_i8 hf.2.1
  obtain ⟨sides, sure, early, late⟩ := p
  obtain ⟨tick, frm, who⟩ := f
  simp only [fitB, sideB] at hR bs bf ⊢
  by_cases ht : tick < 0
  · rw [if_pos ht] at hR
    subst hR
    go_enter Try.func32, Try.ntmps32
    go_wp2_with fail
    go_ret
    exact ⟨rfl, by repeat (first | with_reducible exact Below.refl _ _ | (with_reducible refine kSet ?_ ?hB _; case hB => (simp; try omega)) | with_reducible refine kAlloc ?_ _ | with_reducible refine Below.drew ?_ | with_reducible refine kDrewN ?_ _ | with_reducible refine kTrans ?_ (by assumption))⟩
  · rw [if_neg ht] at hR
    have ht2 : ¬ tick < 0 := ht
    by_cases hs : 0 ≤ frm ∧ frm ≤ 3
    · rw [decide_eq_true hs, Bool.true_and] at hR
      obtain ⟨n, hn, rfl⟩ : ∃ n : Nat, n ≤ 3 ∧ frm = (n : Int) := ⟨frm.toNat, by omega, by omega⟩
      simp only [Int.toNat_natCast] at hR
      obtain ⟨x, hx⟩ : ∃ x : Bool, (Go.bits .and .u8 (sides / 2 ^ n) 1 == 1) = x := ⟨_, rfl⟩
      obtain ⟨y, hy⟩ : ∃ y : Bool, decide (early ≤ tick) = y := ⟨_, rfl⟩
      obtain ⟨z, hz⟩ : ∃ z : Bool, decide (tick ≤ late) = z := ⟨_, rfl⟩
      rw [hx, hy, hz] at hR
      cases x <;> cases y <;> cases z <;> cases sure
      all_goals (
        obtain rfl := hR.symm
        try simp only [decide_eq_true_eq, decide_eq_false_iff_not] at hy hz
        go_enter Try.func32, Try.ntmps32
        go_wp2_with fail
        refine (isSide_any (n : Int) _ true (by simp; omega)).mono ?_
        rintro e w1 ⟨rfl, hb1⟩
        first | subst hb1 | skip
        go_wp2
        go_ret
        first | exact ⟨rfl, by repeat (first | with_reducible exact Below.refl _ _ | (with_reducible refine kSet ?_ ?hB _; case hB => (simp; try omega)) | with_reducible refine kAlloc ?_ _ | with_reducible refine Below.drew ?_ | with_reducible refine kDrewN ?_ _ | with_reducible refine kTrans ?_ (by assumption))⟩ | exact ⟨by simp [hz], by repeat (first | with_reducible exact Below.refl _ _ | (with_reducible refine kSet ?_ ?hB _; case hB => (simp; try omega)) | with_reducible refine kAlloc ?_ _ | with_reducible refine Below.drew ?_ | with_reducible refine kDrewN ?_ _ | with_reducible refine kTrans ?_ (by assumption))⟩)
    · rw [decide_eq_false hs, Bool.false_and] at hR
      subst hR
      have hs2 : decide (0 ≤ frm ∧ frm ≤ 3) = false := decide_eq_false hs
      go_enter Try.func32, Try.ntmps32
      go_wp2_with fail
      refine (isSide_any frm _ false hs2.symm).mono ?_
      rintro e w1 ⟨rfl, hb1⟩
      first | subst hb1 | skip
      go_wp2
      go_ret
      exact ⟨rfl, by repeat (first | with_reducible exact Below.refl _ _ | (with_reducible refine kSet ?_ ?hB _; case hB => (simp; try omega)) | with_reducible refine kAlloc ?_ _ | with_reducible refine Below.drew ?_ | with_reducible refine kDrewN ?_ _ | with_reducible refine kTrans ?_ (by assumption))⟩
set_option maxRecDepth 100000 in
set_option maxHeartbeats 4000000 in
theorem specFitsWindow_any (p : Wn) (f : Fl) (w : World) (hp : p.wf) (hf : f.wf) (R : Bool) (hR : fitB p f = R) :
    Calls Try.prog 29 #[.agg #[.int .u8 p.sides, .bool p.sure, .int .i64 p.early, .int .i64 p.late], .agg #[.int .i64 f.tick, .int .i8 f.frm, .int .i64 f.who]] w fun e w' => e = .returned (.bool R) ∧ Below w.heap.size w w' := by
  have bs := bounds_u8 hp.1
  have bf := bounds_i8 hf.2.1
  obtain ⟨sides, sure, early, late⟩ := p
  obtain ⟨tick, frm, who⟩ := f
  simp only [fitB, sideB] at hR bs bf ⊢
  by_cases ht : tick < 0
  · rw [if_pos ht] at hR
    subst hR
    go_enter Try.func29, Try.ntmps29
    go_wp2_with fail
    go_ret
    exact ⟨rfl, by repeat (first | with_reducible exact Below.refl _ _ | (with_reducible refine kSet ?_ ?hB _; case hB => (simp; try omega)) | with_reducible refine kAlloc ?_ _ | with_reducible refine Below.drew ?_ | with_reducible refine kDrewN ?_ _ | with_reducible refine kTrans ?_ (by assumption))⟩
  · rw [if_neg ht] at hR
    have ht2 : ¬ tick < 0 := ht
    by_cases hs : 0 ≤ frm ∧ frm ≤ 3
    · rw [decide_eq_true hs, Bool.true_and] at hR
      obtain ⟨n, hn, rfl⟩ : ∃ n : Nat, n ≤ 3 ∧ frm = (n : Int) := ⟨frm.toNat, by omega, by omega⟩
      simp only [Int.toNat_natCast] at hR
      obtain ⟨x, hx⟩ : ∃ x : Bool, (Go.bits .and .u8 (sides / 2 ^ n) 1 == 1) = x := ⟨_, rfl⟩
      obtain ⟨y, hy⟩ : ∃ y : Bool, decide (early ≤ tick) = y := ⟨_, rfl⟩
      obtain ⟨z, hz⟩ : ∃ z : Bool, decide (tick ≤ late) = z := ⟨_, rfl⟩
      rw [hx, hy, hz] at hR
      cases x <;> cases y <;> cases z <;> cases sure
      all_goals (
        obtain rfl := hR.symm
        try simp only [decide_eq_true_eq, decide_eq_false_iff_not] at hy hz
        go_enter Try.func29, Try.ntmps29
        go_wp2_with fail
        refine (l01Side_any (n : Int) _ true (by simp; omega)).mono ?_
        rintro e w1 ⟨rfl, hb1⟩
        first | subst hb1 | skip
        go_wp2
        go_ret
        first | exact ⟨rfl, by repeat (first | with_reducible exact Below.refl _ _ | (with_reducible refine kSet ?_ ?hB _; case hB => (simp; try omega)) | with_reducible refine kAlloc ?_ _ | with_reducible refine Below.drew ?_ | with_reducible refine kDrewN ?_ _ | with_reducible refine kTrans ?_ (by assumption))⟩ | exact ⟨by simp [hz], by repeat (first | with_reducible exact Below.refl _ _ | (with_reducible refine kSet ?_ ?hB _; case hB => (simp; try omega)) | with_reducible refine kAlloc ?_ _ | with_reducible refine Below.drew ?_ | with_reducible refine kDrewN ?_ _ | with_reducible refine kTrans ?_ (by assumption))⟩)
    · rw [decide_eq_false hs, Bool.false_and] at hR
      subst hR
      have hs2 : decide (0 ≤ frm ∧ frm ≤ 3) = false := decide_eq_false hs
      go_enter Try.func29, Try.ntmps29
      go_wp2_with fail
      refine (l01Side_any frm _ false hs2.symm).mono ?_
      rintro e w1 ⟨rfl, hb1⟩
      first | subst hb1 | skip
      go_wp2
      go_ret
      exact ⟨rfl, by repeat (first | with_reducible exact Below.refl _ _ | (with_reducible refine kSet ?_ ?hB _; case hB => (simp; try omega)) | with_reducible refine kAlloc ?_ _ | with_reducible refine Below.drew ?_ | with_reducible refine kDrewN ?_ _ | with_reducible refine kTrans ?_ (by assumption))⟩
end Go.Proofs.Ytekmdcakegfkmaa
