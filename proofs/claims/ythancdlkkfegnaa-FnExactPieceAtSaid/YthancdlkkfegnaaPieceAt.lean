/- 'PieceAt' answers as its model at every argument. No conditions. -/
import Derived.Test.YthancdlkkfegnaaPa
import Derived.Test.YthancdlkkfegnaaArgB
import Derived.Deep.RegionHeld3
namespace Go.Proofs.Ythancdlkkfegnaa.PieceAt
open Go.ChangeShapes Go.WideShapes Go.ChangeAt Go.RowKit
set_option linter.unusedVariables false

theorem slBelow {w w' : World} {l : List Pc} {s : Value} (h : Sl w l s) (hb : Below w.heap.size w w') : Sl w' l s := by
  cases h with
  | empty a cap h => exact .empty a cap h
  | mk b o cap hc hbl hl => exact .mk b o cap (hc.below hb hbl) (Nat.lt_of_lt_of_le hbl hb.size) hl

set_option maxRecDepth 100000 in
set_option maxHeartbeats 4000000 in
theorem walk {w : World} (wd hi : Int) (s : Value) (l : List Pc) (bw : i8 wd) (bh : i8 hi) (sl : Sl w l s) (al : All8 l) (le : l.length ≤ 9223372036854775807) (x y : Int) (bx : i8 x ∧ i8 y) :
    Calls Try.prog 5 #[.agg #[.int .i8 wd, .int .i8 hi, s], .agg #[.int .i8 x, .int .i8 y]] w fun e w' => e = .returned (.bool true) ∧ Below w.heap.size w w' := by
  have hk : Below w.heap.size w ((w.alloc (.cells #[.int .i8 wd, .int .i8 hi, s] 25)).alloc (.cells #[.int .i8 x, .int .i8 y] 35)) := by repeat (first | with_reducible exact Below.refl _ _ | (with_reducible refine kSet ?_ ?hB _; case hB => (simp; try omega)) | with_reducible refine kAlloc ?_ _ | with_reducible refine Below.drew ?_ | with_reducible refine kDrewN ?_ _ | with_reducible refine kTrans ?_ (by assumption))
  have sl1 := slBelow sl hk
  have Sl1 := Lib.hid sl1
  have bx0 := (BdAt.box w wd hi s 25).below (w' := (w.alloc (.cells #[.int .i8 wd, .int .i8 hi, s] 25)).alloc (.cells #[.int .i8 x, .int .i8 y] 35)) (by repeat (first | with_reducible exact Below.refl _ _ | (with_reducible refine kSet ?_ ?hB _; case hB => (simp; try omega)) | with_reducible refine kAlloc ?_ _ | with_reducible refine Below.drew ?_ | with_reducible refine kDrewN ?_ _ | with_reducible refine kTrans ?_ (by assumption))) (by simp)
  have cx0 : ((w.alloc (.cells #[.int .i8 wd, .int .i8 hi, s] 25)).alloc (.cells #[.int .i8 x, .int .i8 y] 35)).cell? ⟨w.heap.size + 1, 0, none⟩ = some (.int .i8 x) := by simp
  have cy0 : ((w.alloc (.cells #[.int .i8 wd, .int .i8 hi, s] 25)).alloc (.cells #[.int .i8 x, .int .i8 y] 35)).cell? ⟨w.heap.size + 1, 1, none⟩ = some (.int .i8 y) := by simp
  clear sl sl1 hk
  by_cases hlt : 1048576 - (l.length : Int) < 0
  · go_enter Try.func5, Try.ntmps5
    go_wp2_with fail
    refine (szBoard_any wd hi s l _ Sl1.out 1048576 le (by omega) (by omega)).mono ?_
    rw [if_pos hlt]
    rintro e w1 ⟨rfl, hb1⟩
    go_wp2
    go_ret
    exact ⟨rfl, by repeat (first | with_reducible exact Below.refl _ _ | (with_reducible refine kSet ?_ ?hB _; case hB => (simp; try omega)) | with_reducible refine kAlloc ?_ _ | with_reducible refine Below.drew ?_ | with_reducible refine kDrewN ?_ _ | with_reducible refine kTrans ?_ (by assumption))⟩
  · have hmax : l.length ≤ 1048576 := by omega
    obtain ⟨R, hR⟩ : ∃ R, R = boardOk wd hi l := ⟨_, rfl⟩
    obtain ⟨f, hf⟩ : ∃ f, findFrom x y l 0 = f := ⟨_, rfl⟩
    obtain ⟨A, C, hA⟩ : ∃ A C, pieceAtM R f = (A, C) := ⟨_, _, rfl⟩
    have HR := Lib.hid hR
    have HF := Lib.hid hf
    have HA := Lib.hid hA
    clear hR hf hA
    go_enter Try.func5, Try.ntmps5
    go_wp2_with fail
    refine (szBoard_any wd hi s l _ Sl1.out 1048576 le (by omega) (by omega)).mono ?_
    rw [if_neg (by omega)]
    rintro e w1 ⟨rfl, hb1⟩
    have sl2 := slBelow Sl1.out hb1
    have bx1 := bx0.below hb1 bx0.lt
    have c3 := (hb1.cell (p := ⟨w.heap.size + 1, 0, none⟩) (by simp)).trans cx0
    have c4 := (hb1.cell (p := ⟨w.heap.size + 1, 1, none⟩) (by simp)).trans cy0
    obtain ⟨c0, c1, c2⟩ := id bx1
    simp only [Nat.zero_add] at c1 c2
    have hk1 : w.heap.size + 1 < w1.heap.size := by have := hb1.size; simp at this; omega
    have hk0 := bx1.lt
    have Sl2 := Lib.hid sl2
    clear sl2 Sl1 bx0 cx0 cy0
    go_wp2_with fail
    go_region_held3 (fun w' => w'.cell? ⟨w.heap.size, 0, none⟩ = some (.int .i8 wd) ∧ w'.cell? ⟨w.heap.size, 1, none⟩ = some (.int .i8 hi) ∧ w'.cell? ⟨w.heap.size, 2, none⟩ = some s ∧ w'.cell? ⟨w.heap.size + 1, 0, none⟩ = some (.int .i8 x) ∧ w'.cell? ⟨w.heap.size + 1, 1, none⟩ = some (.int .i8 y)) (go_keep)
      (first
      | (go_at_call 24
         refine (specPieceAt_any b2 0 _ _ wd hi x y l _ rfl (Hp2.out.below hb3 hhi2) (Nat.lt_of_lt_of_le hhi2 hb3.size) (Nat.le_refl _) al bw bh hmax R HR.out f HF.out A C HA.out).mono ?_
         rintro e w4 ⟨rfl, hb4⟩
         have c0 := (hb4.cell (p := ⟨w.heap.size, 0, none⟩) hk3).trans c0
         have c1 := (hb4.cell (p := ⟨w.heap.size, 1, none⟩) hk3).trans c1
         have c2 := (hb4.cell (p := ⟨w.heap.size, 2, none⟩) hk3).trans c2
         have c3 := (hb4.cell (p := ⟨w.heap.size + 1, 0, none⟩) hk3').trans c3
         have c4 := (hb4.cell (p := ⟨w.heap.size + 1, 1, none⟩) hk3').trans c4)
      | (go_at_call 25
         refine (toCell_any x y _).mono ?_
         rintro e w3 ⟨rfl, hb3⟩
         have hk3 := Nat.lt_of_lt_of_le hk2 hb3.size
         have hk3' := Nat.lt_of_lt_of_le hk2' hb3.size
         have c0 := (hb3.cell (p := ⟨w.heap.size, 0, none⟩) hk2).trans c0
         have c1 := (hb3.cell (p := ⟨w.heap.size, 1, none⟩) hk2).trans c1
         have c2 := (hb3.cell (p := ⟨w.heap.size, 2, none⟩) hk2).trans c2
         have c3 := (hb3.cell (p := ⟨w.heap.size + 1, 0, none⟩) hk2').trans c3
         have c4 := (hb3.cell (p := ⟨w.heap.size + 1, 1, none⟩) hk2').trans c4)
      | (go_at_call 19
         refine (toBoard_any wd hi s l _ (slBelow Sl2.out (Below.drew (Below.refl _ _))) hmax).mono ?_
         rintro e w2 ⟨b2, rfl, hlo2, hhi2, hp2, hb2⟩
         have Hp2 := Lib.hid hp2
         clear hp2
         have hk2 := Nat.lt_of_lt_of_le hk0 hb2.size
         have hk2' := Nat.lt_of_lt_of_le hk1 hb2.size
         have c0 := (hb2.cell (p := ⟨w.heap.size, 0, none⟩) hk0).trans c0
         have c1 := (hb2.cell (p := ⟨w.heap.size, 1, none⟩) hk0).trans c1
         have c2 := (hb2.cell (p := ⟨w.heap.size, 2, none⟩) hk0).trans c2
         have c3 := (hb2.cell (p := ⟨w.heap.size + 1, 0, none⟩) hk1).trans c3
         have c4 := (hb2.cell (p := ⟨w.heap.size + 1, 1, none⟩) hk1).trans c4))
    have hb14 : Below w1.heap.size w1 w4 := kTrans (kTrans (kTrans (Below.drew (Below.refl _ _)) hb2) hb3) hb4
    have Sl4 := Lib.hid (slBelow Sl2.out hb14)
    have hk4 := Nat.lt_of_lt_of_le hk0 hb14.size
    have hk4' := Nat.lt_of_lt_of_le hk1 hb14.size
    have hb04 : Below w.heap.size w w4 := by repeat (first | with_reducible exact Below.refl _ _ | (with_reducible refine kSet ?_ ?hB _; case hB => (simp; try omega)) | with_reducible refine kAlloc ?_ _ | with_reducible refine Below.drew ?_ | with_reducible refine kDrewN ?_ _ | with_reducible refine kTrans ?_ (by assumption))
    clear hb2 hb3 hb4 hb1 hb14 Hp2 Sl2 hk0 hk1 hk2 hk2' hk3 hk3' hlo2 hhi2 bx1
    go_wp2_with fail
    refine (toBoard_any wd hi s l _ Sl4.out hmax).mono ?_
    rintro e w5 ⟨b5, rfl, hlo5, hhi5, hp5, hb5⟩
    have hka : Below w5.heap.size w5 (w5.alloc (.cells #[.int .i8 wd, .int .i8 hi, .slice (some ⟨b5, 0, none⟩) l.length l.length] 30)) := by repeat (first | with_reducible exact Below.refl _ _ | (with_reducible refine kSet ?_ ?hB _; case hB => (simp; try omega)) | with_reducible refine kAlloc ?_ _ | with_reducible refine Below.drew ?_ | with_reducible refine kDrewN ?_ _ | with_reducible refine kTrans ?_ (by assumption))
    have Sl5 := Lib.hid (slBelow (slBelow Sl4.out hb5) hka)
    have Hp5 := Lib.hid (hp5.below hka hhi5)
    have c0 := (hka.cell (p := ⟨w.heap.size, 0, none⟩) (Nat.lt_of_lt_of_le hk4 hb5.size)).trans ((hb5.cell (p := ⟨w.heap.size, 0, none⟩) hk4).trans c0)
    have c1 := (hka.cell (p := ⟨w.heap.size, 1, none⟩) (Nat.lt_of_lt_of_le hk4 hb5.size)).trans ((hb5.cell (p := ⟨w.heap.size, 1, none⟩) hk4).trans c1)
    have c2 := (hka.cell (p := ⟨w.heap.size, 2, none⟩) (Nat.lt_of_lt_of_le hk4 hb5.size)).trans ((hb5.cell (p := ⟨w.heap.size, 2, none⟩) hk4).trans c2)
    have c3 := (hka.cell (p := ⟨w.heap.size + 1, 0, none⟩) (Nat.lt_of_lt_of_le hk4' hb5.size)).trans ((hb5.cell (p := ⟨w.heap.size + 1, 0, none⟩) hk4').trans c3)
    have c4 := (hka.cell (p := ⟨w.heap.size + 1, 1, none⟩) (Nat.lt_of_lt_of_le hk4' hb5.size)).trans ((hb5.cell (p := ⟨w.heap.size + 1, 1, none⟩) hk4').trans c4)
    have hk5 := Nat.lt_of_lt_of_le hk4 (Nat.le_trans hb5.size hka.size)
    have hk5' := Nat.lt_of_lt_of_le hk4' (Nat.le_trans hb5.size hka.size)
    have hk5x : w5.heap.size < (w5.alloc (.cells #[.int .i8 wd, .int .i8 hi, .slice (some ⟨b5, 0, none⟩) l.length l.length] 30)).heap.size := by simp
    have hk5b := Nat.lt_of_lt_of_le hhi5 hka.size
    have hb05 : Below w.heap.size w (w5.alloc (.cells #[.int .i8 wd, .int .i8 hi, .slice (some ⟨b5, 0, none⟩) l.length l.length] 30)) := kTrans (kTrans hb04 hb5) hka
    have d0 : (w5.alloc (.cells #[.int .i8 wd, .int .i8 hi, .slice (some ⟨b5, 0, none⟩) l.length l.length] 30)).cell? ⟨w5.heap.size, 0, none⟩ = some (.int .i8 wd) := by simp
    have d1 : (w5.alloc (.cells #[.int .i8 wd, .int .i8 hi, .slice (some ⟨b5, 0, none⟩) l.length l.length] 30)).cell? ⟨w5.heap.size, 1, none⟩ = some (.int .i8 hi) := by simp
    have d2 : (w5.alloc (.cells #[.int .i8 wd, .int .i8 hi, .slice (some ⟨b5, 0, none⟩) l.length l.length] 30)).cell? ⟨w5.heap.size, 2, none⟩ = some (.slice (some ⟨b5, 0, none⟩) l.length l.length) := by simp
    clear hp5 Sl4 hk4 hk4' hb5 hka hb04 hlo5 hhi5
    go_wp2_with fail
    generalize hW : w5.alloc (.cells #[.int .i8 wd, .int .i8 hi, .slice (some ⟨b5, 0, none⟩) l.length l.length] 30) = W at c0 c1 c2 c3 c4 d0 d1 d2 Sl5 Hp5 hk5 hk5' hk5x hk5b hb05 ⊢
    clear hW
    go_region_held3 (fun w' => w'.cell? ⟨w.heap.size, 0, none⟩ = some (.int .i8 wd) ∧ w'.cell? ⟨w.heap.size, 1, none⟩ = some (.int .i8 hi) ∧ w'.cell? ⟨w.heap.size, 2, none⟩ = some s ∧ w'.cell? ⟨w.heap.size + 1, 0, none⟩ = some (.int .i8 x) ∧ w'.cell? ⟨w.heap.size + 1, 1, none⟩ = some (.int .i8 y) ∧ w'.cell? ⟨w5.heap.size, 0, none⟩ = some (.int .i8 wd) ∧ w'.cell? ⟨w5.heap.size, 1, none⟩ = some (.int .i8 hi) ∧ w'.cell? ⟨w5.heap.size, 2, none⟩ = some (.slice (some ⟨b5, 0, none⟩) l.length l.length)) (go_keep)
      (first
      | (go_at_call 26
         refine (implPieceAt_any b5 0 _ _ wd hi x y l _ rfl (Hp5.out.below (kTrans (Below.drew (Below.refl _ _)) hb6) hk5b) (Nat.lt_of_lt_of_le hk5b hb6.size) (Nat.le_refl _) al hmax R HR.out f HF.out A C HA.out).mono ?_
         rintro e w7 ⟨rfl, hb7⟩
         have c0 := (hb7.cell (p := ⟨w.heap.size, 0, none⟩) hk6).trans c0
         have c1 := (hb7.cell (p := ⟨w.heap.size, 1, none⟩) hk6).trans c1
         have c2 := (hb7.cell (p := ⟨w.heap.size, 2, none⟩) hk6).trans c2
         have c3 := (hb7.cell (p := ⟨w.heap.size + 1, 0, none⟩) hk6').trans c3
         have c4 := (hb7.cell (p := ⟨w.heap.size + 1, 1, none⟩) hk6').trans c4
         have d0 := (hb7.cell (p := ⟨w5.heap.size, 0, none⟩) hk6x).trans d0
         have d1 := (hb7.cell (p := ⟨w5.heap.size, 1, none⟩) hk6x).trans d1
         have d2 := (hb7.cell (p := ⟨w5.heap.size, 2, none⟩) hk6x).trans d2)
      | (go_at_call 25
         refine (toCell_any x y _).mono ?_
         rintro e w6 ⟨rfl, hb6⟩
         have hk6 := Nat.lt_of_lt_of_le hk5 hb6.size
         have hk6' := Nat.lt_of_lt_of_le hk5' hb6.size
         have hk6x := Nat.lt_of_lt_of_le hk5x hb6.size
         have c0 := (hb6.cell (p := ⟨w.heap.size, 0, none⟩) hk5).trans c0
         have c1 := (hb6.cell (p := ⟨w.heap.size, 1, none⟩) hk5).trans c1
         have c2 := (hb6.cell (p := ⟨w.heap.size, 2, none⟩) hk5).trans c2
         have c3 := (hb6.cell (p := ⟨w.heap.size + 1, 0, none⟩) hk5').trans c3
         have c4 := (hb6.cell (p := ⟨w.heap.size + 1, 1, none⟩) hk5').trans c4
         have d0 := (hb6.cell (p := ⟨w5.heap.size, 0, none⟩) hk5x).trans d0
         have d1 := (hb6.cell (p := ⟨w5.heap.size, 1, none⟩) hk5x).trans d1
         have d2 := (hb6.cell (p := ⟨w5.heap.size, 2, none⟩) hk5x).trans d2))
    have hbW7 : Below W.heap.size W w7 := kTrans (kTrans (Below.drew (Below.refl _ _)) hb6) hb7
    have hb07 : Below w.heap.size w w7 := kTrans hb05 hbW7
    have Sl7 := Lib.hid (slBelow Sl5.out hbW7)
    have hp7 := Hp5.out.below hbW7 hk5b
    have hk7 := Nat.lt_of_lt_of_le hk5 hbW7.size
    have hk7x := Nat.lt_of_lt_of_le hk5x hbW7.size
    have hk7b := Nat.lt_of_lt_of_le hk5b hbW7.size
    have Hp7 := Lib.hid hp7
    clear hp7 hb6 hb7 hbW7 Hp5 Sl5 hk5 hk5' hk5x hk5b hk6 hk6' hk6x hb05 c3 c4
    go_wp2_with fail
    go_region_held3 (fun w' => w'.cell? ⟨w.heap.size, 0, none⟩ = some (.int .i8 wd) ∧ w'.cell? ⟨w.heap.size, 1, none⟩ = some (.int .i8 hi) ∧ w'.cell? ⟨w.heap.size, 2, none⟩ = some s ∧ w'.cell? ⟨w5.heap.size, 0, none⟩ = some (.int .i8 wd) ∧ w'.cell? ⟨w5.heap.size, 1, none⟩ = some (.int .i8 hi) ∧ w'.cell? ⟨w5.heap.size, 2, none⟩ = some (.slice (some ⟨b5, 0, none⟩) l.length l.length)) (go_keep)
      (first
      | (go_at_call 21
         refine (eqBoard_same wd hi b5 0 b8 0 _ _ _ l _ rfl (by exact Hp7.out.below (kTrans (Below.drew (Below.refl _ _)) hb8) hk7b) hp8 (Nat.lt_of_lt_of_le hk7b hb8.size) hhi8 al (Nat.le_refl _) (Nat.le_refl _) hmax).mono ?_
         rintro e w9 ⟨rfl, hb9⟩
         have c0 := (hb9.cell (p := ⟨w.heap.size, 0, none⟩) (Nat.lt_of_lt_of_le hk7 hb8.size)).trans c0
         have c1 := (hb9.cell (p := ⟨w.heap.size, 1, none⟩) (Nat.lt_of_lt_of_le hk7 hb8.size)).trans c1
         have c2 := (hb9.cell (p := ⟨w.heap.size, 2, none⟩) (Nat.lt_of_lt_of_le hk7 hb8.size)).trans c2
         have d0 := (hb9.cell (p := ⟨w5.heap.size, 0, none⟩) (Nat.lt_of_lt_of_le hk7x hb8.size)).trans d0
         have d1 := (hb9.cell (p := ⟨w5.heap.size, 1, none⟩) (Nat.lt_of_lt_of_le hk7x hb8.size)).trans d1
         have d2 := (hb9.cell (p := ⟨w5.heap.size, 2, none⟩) (Nat.lt_of_lt_of_le hk7x hb8.size)).trans d2)
      | (go_at_call 19
         refine (toBoard_any wd hi s l _ (slBelow Sl7.out (Below.drew (Below.refl _ _))) hmax).mono ?_
         rintro e w8 ⟨b8, rfl, hlo8, hhi8, hp8, hb8⟩
         have c0 := (hb8.cell (p := ⟨w.heap.size, 0, none⟩) hk7).trans c0
         have c1 := (hb8.cell (p := ⟨w.heap.size, 1, none⟩) hk7).trans c1
         have c2 := (hb8.cell (p := ⟨w.heap.size, 2, none⟩) hk7).trans c2
         have d0 := (hb8.cell (p := ⟨w5.heap.size, 0, none⟩) hk7x).trans d0
         have d1 := (hb8.cell (p := ⟨w5.heap.size, 1, none⟩) hk7x).trans d1
         have d2 := (hb8.cell (p := ⟨w5.heap.size, 2, none⟩) hk7x).trans d2))
    have hb79 := kTrans (kTrans (Below.drew (Below.refl w7.heap.size w7)) hb8) hb9
    have hb09 := kTrans hb07 hb79
    clear hb8 hb9 hb79 hb07 Hp7 Sl7
    go_wp2
    go_ret
    exact ⟨rfl, hb09⟩

set_option maxRecDepth 100000 in
theorem lifted (os : Os) (started : os.Started) (H : Type) (enc : TypeId × Value → H) :
    ReturnsInHanded {} Try.checked os 5 .any (Rows.fnExactPieceAtSpec.pre6 enc Try.prog Try.f5 Rows.fnExactPieceAtRow.domain false) (Rows.fnExactPieceAtSpec.post enc Try.prog Try.f5 false true false false) := by
  refine returnsInHanded_of_change (C := Try.checked) own started (by kernel_rfl) Try.func5
    (ChangeSpec.witness6 (enc := enc) (C := Try.checked) false ⟨#[], #[.agg #[.int .i8 0, .int .i8 0, .slice none 0 0], .agg #[.int .i8 0, .int .i8 0]], []⟩ 8 (by kernel_rfl) (by kernel_rfl) (by kernel_rfl) (by kernel_rfl)) ?_
  intro W base args ds gs before hval0 hW hcnd _
  have hval : ∀ (j : Nat) t v, Try.f5.params[j]? = some t → args[j]? = some v → Value.okWide Try.prog W .any base t v := hval0
  have hW' := hW
  obtain ⟨p, q, hA0, hV, rfl, hfz, hnd⟩ := hW
  have hA : DataW.TrodAll enc Try.prog W 0 (fun _ => true) true Try.f5.params.toList args.toList ds p := hA0
  rw [Try.params5] at hA hval
  have r_ := hA
  obtain ⟨v0, vs0, d0, ds0, pp0, qq0, hargs0, hds0, _, h0, r_⟩ := trodAll_cons r_
  obtain ⟨v1, vs1, d1, ds1, pp1, qq1, hargs1, hds1, _, h1, r_⟩ := trodAll_cons r_
  obtain ⟨hv_, hd_, _⟩ := trodAll_nil r_
  subst hv_ hd_
  subst hargs1 hds1
  obtain rfl : args = #[v0, v1] := by cases args; simp_all
  subst hds0
  obtain ⟨f0_, f1_, f2_, e1_, e2_, e3_, e4_, e5_⟩ := board_struct
  obtain ⟨wd0, hi0, s0, l0, rfl, bw0, bh0, sl0, al0, le0⟩ := open_board e1_ e2_ board_cells e3_ e4_ e5_ piece_cells piece_flat (hval 0 25 v0 rfl rfl) h0
  obtain ⟨x1, y1, rfl, bx1⟩ := open_cell flat_cell agg_cell (hval 1 35 v1 rfl rfl) h1
  refine (walk (w := W) wd0 hi0 s0 l0 bw0 bh0 sl0 al0 le0 x1 y1 bx1).mono fun e W' ⟨he, hg⟩ => ?_
  subst he
  exact ⟨_, rfl, law_post kids full Try.underlying4 (by decide) rfl rfl rfl hW' hg⟩

theorem over : Rows.fnExactPieceAtRow.holds Try.pinned (OpenSpec.ofChange Rows.fnExactPieceAtSpec) :=
  OpenClaim.holds_of_wide 5 Try.f5 rfl rfl rfl rfl rfl rfl rfl ⟨rfl, rfl, rfl, rfl, rfl⟩ rfl rfl rfl rfl rfl (by kernel_rfl) Try.func5 (by kernel_rfl)
    (of_decide_eq_true (by kernel_rfl)) (by unfold Func.isWrapper; first | (rw [if_pos (by decide +kernel)]; kernel_rfl) | (rw [if_neg (by decide +kernel)]; exact ⟨rfl, rfl⟩))
    (fun os started H enc _ => lifted os started H enc)

/-- The statement. -/
theorem proved : Rows.FnExactPieceAtSaid :=
  over
#print axioms proved
end Go.Proofs.Ythancdlkkfegnaa.PieceAt
