/- 'ValidBoard' answers as its model at every argument. No conditions. -/
import Derived.Test.YtmjfohmiihdfcaaVb
import Derived.Test.YtmjfohmiihdfcaaArgB
import Derived.Deep.RegionHeld3
namespace Go.Proofs.Ytmjfohmiihdfcaa.ValidBoard
open Go.ChangeShapes Go.WideShapes Go.ChangeAt Go.RowKit
set_option linter.unusedVariables false

theorem slBelow {w w' : World} {l : List Pc} {s : Value} (h : Sl w l s) (hb : Below w.heap.size w w') : Sl w' l s := by
  cases h with
  | empty a cap h => exact .empty a cap h
  | mk b o cap hc hbl hl => exact .mk b o cap (hc.below hb hbl) (Nat.lt_of_lt_of_le hbl hb.size) hl

set_option maxRecDepth 100000 in
set_option maxHeartbeats 4000000 in
theorem walk (wd hi : Int) (s : Value) (l : List Pc) (w : World) (bw : i8 wd) (bh : i8 hi) (sl : Sl w l s) (al : All8 l) (le : l.length ≤ 9223372036854775807) :
    Calls Try.prog 4 #[.agg #[.int .i8 wd, .int .i8 hi, s]] w fun e w' => e = .returned (.bool true) ∧ Below w.heap.size w w' := by
  have hk : Below w.heap.size w (w.alloc (.cells #[.int .i8 wd, .int .i8 hi, s] 44)) := by repeat (first | with_reducible exact Below.refl _ _ | (with_reducible refine kSet ?_ ?hB _; case hB => (simp; try omega)) | with_reducible refine kAlloc ?_ _ | with_reducible refine Below.drew ?_ | with_reducible refine kDrewN ?_ _ | with_reducible refine kTrans ?_ (by assumption))
  have sl1 := slBelow sl hk
  have Sl1 := Lib.hid sl1
  have bx := BdAt.box w wd hi s 44
  clear sl sl1 hk
  by_cases hlt : 1048576 - (l.length : Int) < 0
  · go_enter Try.func4, Try.ntmps4
    go_wp2_with fail
    refine (szBoard_any wd hi s l _ Sl1.out 1048576 le (by omega) (by omega)).mono ?_
    rw [if_pos hlt]
    rintro e w1 ⟨rfl, hb1⟩
    go_wp2
    go_ret
    exact ⟨rfl, by repeat (first | with_reducible exact Below.refl _ _ | (with_reducible refine kSet ?_ ?hB _; case hB => (simp; try omega)) | with_reducible refine kAlloc ?_ _ | with_reducible refine Below.drew ?_ | with_reducible refine kDrewN ?_ _ | with_reducible refine kTrans ?_ (by assumption))⟩
  · have hmax : l.length ≤ 1048576 := by omega
    obtain ⟨R, hR⟩ : ∃ R, R = boardOk wd hi l := ⟨_, rfl⟩
    have HR := Lib.hid hR
    clear hR
    go_enter Try.func4, Try.ntmps4
    go_wp2_with fail
    refine (szBoard_any wd hi s l _ Sl1.out 1048576 le (by omega) (by omega)).mono ?_
    rw [if_neg (by omega)]
    rintro e w1 ⟨rfl, hb1⟩
    have sl2 := slBelow Sl1.out hb1
    have bx1 := bx.below hb1 (by simp)
    obtain ⟨c0, c1, c2⟩ := id bx1
    have Sl2 := Lib.hid sl2
    clear sl2 Sl1
    go_wp2_with fail
    refine (toBoard_any wd hi s l _ Sl2.out hmax).mono ?_
    rintro e w2 ⟨b2, rfl, hlo2, hhi2, hp2, hb2⟩
    have sl3 := slBelow Sl2.out hb2
    have bx2 := bx1.below hb2 bx1.lt
    have Sl3 := Lib.hid sl3
    have Hp2 := Lib.hid hp2
    clear sl3 Sl2 c0 c1 c2 bx1 hp2
    go_wp2_with fail
    refine (specValidBoard_any b2 0 _ _ wd hi l _ rfl Hp2.out hhi2 (Nat.le_refl _) al bw bh hmax R HR.out).mono ?_
    rintro e w3 ⟨rfl, hb3⟩
    have sl4 := slBelow Sl3.out hb3
    have bx3 := bx2.below hb3 bx2.lt
    obtain ⟨c0, c1, c2⟩ := id bx3
    have Sl4 := Lib.hid sl4
    clear sl4 Sl3 Hp2
    go_wp2_with fail
    refine (toBoard_any wd hi s l _ Sl4.out hmax).mono ?_
    rintro e w4 ⟨b4, rfl, hlo4, hhi4, hp4, hb4⟩
    have hk4 : Below w4.heap.size w4 (w4.alloc (.cells #[.int .i8 wd, .int .i8 hi, .slice (some ⟨b4, 0, none⟩) l.length l.length] 49)) := by repeat (first | with_reducible exact Below.refl _ _ | (with_reducible refine kSet ?_ ?hB _; case hB => (simp; try omega)) | with_reducible refine kAlloc ?_ _ | with_reducible refine Below.drew ?_ | with_reducible refine kDrewN ?_ _ | with_reducible refine kTrans ?_ (by assumption))
    have sl5 := slBelow (slBelow Sl4.out hb4) hk4
    have bx4 := (bx3.below hb4 bx3.lt).below hk4 (bx3.below hb4 bx3.lt).lt
    have by4 := BdAt.box w4 wd hi (.slice (some ⟨b4, 0, none⟩) l.length l.length) 49
    have hp5 := hp4.below hk4 hhi4
    have Sl5 := Lib.hid sl5
    have Hp5 := Lib.hid hp5
    clear sl5 hp5 hp4 Sl4 c0 c1 c2 hk4
    go_wp2_with fail
    refine (implValidBoard_any b4 0 _ _ wd hi l _ rfl Hp5.out (by simp; omega) (Nat.le_refl _) al hmax R HR.out).mono ?_
    rintro e w5 ⟨rfl, hb5⟩
    have sl6 := slBelow Sl5.out hb5
    have bx5 := bx4.below hb5 bx4.lt
    have by5 := by4.below hb5 by4.lt
    have hp6 := Hp5.out.below hb5 (by simp; omega)
    have h56 : b4 < w5.heap.size := by have := hb5.size; simp at this; omega
    have Sl6 := Lib.hid sl6
    have Hp6 := Lib.hid hp6
    obtain ⟨c0, c1, c2⟩ := id bx5
    obtain ⟨d0, d1, d2⟩ := id by5
    have hbx := bx5.lt
    have hby := by5.lt
    simp only [Nat.zero_add] at c1 c2 d1 d2
    clear sl6 hp6 Sl5 Hp5 bx4 by4
    cases R
    all_goals
      go_wp2
      go_region_held3 (fun w' => w'.cell? ⟨w.heap.size, 0, none⟩ = some (.int .i8 wd) ∧ w'.cell? ⟨w.heap.size, 1, none⟩ = some (.int .i8 hi) ∧ w'.cell? ⟨w.heap.size, 2, none⟩ = some s ∧ w'.cell? ⟨w4.heap.size, 0, none⟩ = some (.int .i8 wd) ∧ w'.cell? ⟨w4.heap.size, 1, none⟩ = some (.int .i8 hi) ∧ w'.cell? ⟨w4.heap.size, 2, none⟩ = some (.slice (some ⟨b4, 0, none⟩) l.length l.length)) (go_keep)
        (first
        | (go_at_call 32; refine (eqBoard_same wd hi b4 0 b6 0 _ _ _ l _ rfl (by exact Hp6.out.below (kTrans (Below.drew (Below.refl _ _)) hb6) h56) hp6 (Nat.lt_of_lt_of_le h56 hb6.size) hhi6 al (Nat.le_refl _) (Nat.le_refl _) hmax).mono ?_; rintro e w7 ⟨rfl, hb7⟩; have c0 := (hb7.cell (p := ⟨w.heap.size, 0, none⟩) (Nat.lt_of_lt_of_le hbx hb6.size)).trans c0; have c1 := (hb7.cell (p := ⟨w.heap.size, 1, none⟩) (Nat.lt_of_lt_of_le hbx hb6.size)).trans c1; have c2 := (hb7.cell (p := ⟨w.heap.size, 2, none⟩) (Nat.lt_of_lt_of_le hbx hb6.size)).trans c2; have d0 := (hb7.cell (p := ⟨w4.heap.size, 0, none⟩) (Nat.lt_of_lt_of_le hby hb6.size)).trans d0; have d1 := (hb7.cell (p := ⟨w4.heap.size, 1, none⟩) (Nat.lt_of_lt_of_le hby hb6.size)).trans d1; have d2 := (hb7.cell (p := ⟨w4.heap.size, 2, none⟩) (Nat.lt_of_lt_of_le hby hb6.size)).trans d2)
        | (go_at_call 30; refine (toBoard_any wd hi s l _ (slBelow Sl6.out (Below.drew (Below.refl _ _))) hmax).mono ?_; rintro e w6 ⟨b6, rfl, hlo6, hhi6, hp6, hb6⟩; have c0 := (hb6.cell (p := ⟨w.heap.size, 0, none⟩) hbx).trans c0; have c1 := (hb6.cell (p := ⟨w.heap.size, 1, none⟩) hbx).trans c1; have c2 := (hb6.cell (p := ⟨w.heap.size, 2, none⟩) hbx).trans c2; have d0 := (hb6.cell (p := ⟨w4.heap.size, 0, none⟩) hby).trans d0; have d1 := (hb6.cell (p := ⟨w4.heap.size, 1, none⟩) hby).trans d1; have d2 := (hb6.cell (p := ⟨w4.heap.size, 2, none⟩) hby).trans d2))
      have hb5' := kTrans (Below.drew (Below.refl w5.heap.size w5)) hb6
      go_wp2
      go_ret
      exact ⟨rfl, by repeat (first | with_reducible exact Below.refl _ _ | (with_reducible refine kSet ?_ ?hB _; case hB => (simp; try omega)) | with_reducible refine kAlloc ?_ _ | with_reducible refine Below.drew ?_ | with_reducible refine kDrewN ?_ _ | with_reducible refine kTrans ?_ (by assumption))⟩

set_option maxRecDepth 100000 in
theorem lifted (os : Os) (started : os.Started) (H : Type) (enc : TypeId × Value → H) :
    ReturnsInHanded {} Try.checked os 4 .any (Rows.fnExactValidBoardSpec.pre6 enc Try.prog Try.f4 Rows.fnExactValidBoardRow.domain false) (Rows.fnExactValidBoardSpec.post enc Try.prog Try.f4 false true false false) := by
  refine returnsInHanded_of_change (C := Try.checked) own started (by kernel_rfl) Try.func4
    (ChangeSpec.witness6 (enc := enc) (C := Try.checked) false ⟨#[], #[.agg #[.int .i8 0, .int .i8 0, .slice none 0 0]], []⟩ 8 (by kernel_rfl) (by kernel_rfl) (by kernel_rfl) (by kernel_rfl)) ?_
  intro W base args ds gs before hval0 hW hcnd _
  have hval : ∀ (j : Nat) t v, Try.f4.params[j]? = some t → args[j]? = some v → Value.okWide Try.prog W .any base t v := hval0
  have hW' := hW
  obtain ⟨p, q, hA0, hV, rfl, hfz, hnd⟩ := hW
  have hA : DataW.TrodAll enc Try.prog W 0 (fun _ => true) true Try.f4.params.toList args.toList ds p := hA0
  rw [Try.params4] at hA hval
  have r_ := hA
  obtain ⟨v0, vs0, d0, ds0, pp0, qq0, hargs0, hds0, _, h0, r_⟩ := trodAll_cons r_
  obtain ⟨hv_, hd_, _⟩ := trodAll_nil r_
  subst hv_ hd_
  obtain rfl : args = #[v0] := by cases args; simp_all
  subst hds0
  obtain ⟨f0_, f1_, f2_, e1_, e2_, e3_, e4_, e5_⟩ := board_struct
  obtain ⟨wd0, hi0, s0, l0, rfl, bw0, bh0, sl0, al0, le0⟩ := open_board e1_ e2_ board_cells e3_ e4_ e5_ piece_cells piece_flat (hval 0 44 v0 rfl rfl) h0
  refine (walk (w := W) wd0 hi0 s0 l0 bw0 bh0 sl0 al0 le0).mono fun e W' ⟨he, hg⟩ => ?_
  subst he
  exact ⟨_, rfl, law_post kids full Try.underlying4 (by decide) rfl rfl rfl hW' hg⟩

theorem over : Rows.fnExactValidBoardRow.holds Try.pinned (OpenSpec.ofChange Rows.fnExactValidBoardSpec) :=
  OpenClaim.holds_of_wide 4 Try.f4 rfl rfl rfl rfl rfl rfl rfl ⟨rfl, rfl, rfl, rfl, rfl⟩ rfl rfl rfl rfl rfl (by kernel_rfl) Try.func4 (by kernel_rfl)
    (of_decide_eq_true (by kernel_rfl)) (by unfold Func.isWrapper; first | (rw [if_pos (by decide +kernel)]; kernel_rfl) | (rw [if_neg (by decide +kernel)]; exact ⟨rfl, rfl⟩))
    (fun os started H enc _ => lifted os started H enc)

/-- The statement. -/
theorem proved : Rows.FnExactValidBoardSaid :=
  over
#print axioms proved
end Go.Proofs.Ytmjfohmiihdfcaa.ValidBoard
