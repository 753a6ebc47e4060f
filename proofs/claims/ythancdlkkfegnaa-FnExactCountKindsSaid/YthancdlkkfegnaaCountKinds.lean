/- 'CountKinds' answers as its model at every argument. No conditions. -/
import Derived.Test.YthancdlkkfegnaaCk
import Derived.Test.YthancdlkkfegnaaArgB
import Derived.Deep.RegionHeld3
namespace Go.Proofs.Ythancdlkkfegnaa.CountKinds
open Go.ChangeShapes Go.WideShapes Go.ChangeAt Go.RowKit
set_option linter.unusedVariables false

theorem slBelow {w w' : World} {l : List Pc} {s : Value} (h : Sl w l s) (hb : Below w.heap.size w w') : Sl w' l s := by
  cases h with
  | empty a cap h => exact .empty a cap h
  | mk b o cap hc hbl hl => exact .mk b o cap (hc.below hb hbl) (Nat.lt_of_lt_of_le hbl hb.size) hl

theorem same (wd hi : Int) (l : List Pc) (bw : i8 wd) (bh : i8 hi) (al : All8 l) (hmax : l.length ≤ 1048576) : ∃ A0 A1 A2 A3 A4 A5 C : Int, (∀ b w, PcsAt w b 0 l → b < w.heap.size → Calls Try.prog 34 #[.agg #[.int .i8 wd, .int .i8 hi, .slice (some ⟨b, 0, none⟩) l.length l.length]] w fun e w' => e = .returned (.tuple #[.agg #[.int .i64 A0, .int .i64 A1, .int .i64 A2, .int .i64 A3, .int .i64 A4, .int .i64 A5], .int .i64 C]) ∧ Below w.heap.size w w') ∧ (∀ b w, PcsAt w b 0 l → b < w.heap.size → Calls Try.prog 35 #[.agg #[.int .i8 wd, .int .i8 hi, .slice (some ⟨b, 0, none⟩) l.length l.length]] w fun e w' => e = .returned (.tuple #[.agg #[.int .i64 A0, .int .i64 A1, .int .i64 A2, .int .i64 A3, .int .i64 A4, .int .i64 A5], .int .i64 C]) ∧ Below w.heap.size w w') :=
  ⟨_, _, _, _, _, _, _, fun b w hp hb => specCountKinds_any b 0 _ _ wd hi l w rfl hp hb (Nat.le_refl _) al bw bh hmax _ rfl, fun b w hp hb => implCountKinds_any b 0 _ _ wd hi l w rfl hp hb (Nat.le_refl _) al bw bh hmax _ rfl⟩

set_option maxRecDepth 100000 in
set_option maxHeartbeats 4000000 in
theorem walk {w : World} (wd hi : Int) (s : Value) (l : List Pc) (bw : i8 wd) (bh : i8 hi) (sl : Sl w l s) (al : All8 l) (le : l.length ≤ 9223372036854775807)  :
    Calls Try.prog 8 #[.agg #[.int .i8 wd, .int .i8 hi, s]] w fun e w' => e = .returned (.bool true) ∧ Below w.heap.size w w' := by
  have hk : Below w.heap.size w (w.alloc (.cells #[.int .i8 wd, .int .i8 hi, s] 25)) := by repeat (first | with_reducible exact Below.refl _ _ | (with_reducible refine kSet ?_ ?hB _; case hB => (simp; try omega)) | with_reducible refine kAlloc ?_ _ | with_reducible refine Below.drew ?_ | with_reducible refine kDrewN ?_ _ | with_reducible refine kTrans ?_ (by assumption))
  have sl1 := slBelow sl hk
  have Sl1 := Lib.hid sl1
  have bx := BdAt.box w wd hi s 25
  clear sl sl1 hk
  by_cases hlt : 1048576 - (l.length : Int) < 0
  · go_enter Try.func8, Try.ntmps8
    go_wp2_with fail
    refine (szBoard_any wd hi s l _ Sl1.out 1048576 le (by omega) (by omega)).mono ?_
    rw [if_pos hlt]
    rintro e w1 ⟨rfl, hb1⟩
    go_wp2
    go_ret
    exact ⟨rfl, by repeat (first | with_reducible exact Below.refl _ _ | (with_reducible refine kSet ?_ ?hB _; case hB => (simp; try omega)) | with_reducible refine kAlloc ?_ _ | with_reducible refine Below.drew ?_ | with_reducible refine kDrewN ?_ _ | with_reducible refine kTrans ?_ (by assumption))⟩
  · have hmax : l.length ≤ 1048576 := by omega
    obtain ⟨A0, A1, A2, A3, A4, A5, C, hs, hi'⟩ := same wd hi l bw bh al hmax
    have Hs := Lib.hid hs
    have Hi := Lib.hid hi'
    clear hs hi'
    go_enter Try.func8, Try.ntmps8
    go_wp2_with fail
    refine (szBoard_any wd hi s l _ Sl1.out 1048576 le (by omega) (by omega)).mono ?_
    rw [if_neg (by omega)]
    rintro e w1 ⟨rfl, hb1⟩
    have Sl2 := Lib.hid (slBelow Sl1.out hb1)
    have bx1 := bx.below hb1 bx.lt
    have k1 := bx1.lt
    have T1 : Below w.heap.size w w1 := by repeat (first | with_reducible exact Below.refl _ _ | (with_reducible refine kSet ?_ ?hB _; case hB => (simp; try omega)) | with_reducible refine kAlloc ?_ _ | with_reducible refine Below.drew ?_ | with_reducible refine kDrewN ?_ _ | with_reducible refine kTrans ?_ (by assumption))
    obtain ⟨c0, c1, c2⟩ := id bx1
    simp only [Nat.zero_add] at c1 c2
    clear Sl1 bx hb1
    go_wp2_with fail
    refine (toBoard_any wd hi s l _ Sl2.out hmax).mono ?_
    rintro e w2 ⟨b2, rfl, hlo2, hhi2, hp2, hb2⟩
    have Sl3 := Lib.hid (slBelow Sl2.out hb2)
    have bx2 := bx1.below hb2 k1
    have k2 := bx2.lt
    have T2 : Below w.heap.size w w2 := kTrans T1 hb2
    have Hp2 := Lib.hid hp2
    clear Sl2 c0 c1 c2 bx1 hp2 T1 hlo2 k1 hb2
    go_wp2_with fail
    refine (Hs.out b2 _ Hp2.out hhi2).mono ?_
    rintro e w3 ⟨rfl, hb3⟩
    have hka : Below w3.heap.size w3 (w3.alloc (.cells #[.int .i64 A0, .int .i64 A1, .int .i64 A2, .int .i64 A3, .int .i64 A4, .int .i64 A5] 51)) := by repeat (first | with_reducible exact Below.refl _ _ | (with_reducible refine kSet ?_ ?hB _; case hB => (simp; try omega)) | with_reducible refine kAlloc ?_ _ | with_reducible refine Below.drew ?_ | with_reducible refine kDrewN ?_ _ | with_reducible refine kTrans ?_ (by assumption))
    have Sl4 := Lib.hid (slBelow (slBelow Sl3.out hb3) hka)
    have bx3 := (bx2.below hb3 k2).below hka (bx2.below hb3 k2).lt
    have k3 := bx3.lt
    have T3 : Below w.heap.size w (w3.alloc (.cells #[.int .i64 A0, .int .i64 A1, .int .i64 A2, .int .i64 A3, .int .i64 A4, .int .i64 A5] 51)) := kTrans (kTrans T2 hb3) hka
    have kw : w3.heap.size < (w3.alloc (.cells #[.int .i64 A0, .int .i64 A1, .int .i64 A2, .int .i64 A3, .int .i64 A4, .int .i64 A5] 51)).heap.size := by simp
    have p0 : (w3.alloc (.cells #[.int .i64 A0, .int .i64 A1, .int .i64 A2, .int .i64 A3, .int .i64 A4, .int .i64 A5] 51)).cell? ⟨w3.heap.size, 0, none⟩ = some (.int .i64 A0) := by simp
    have p1 : (w3.alloc (.cells #[.int .i64 A0, .int .i64 A1, .int .i64 A2, .int .i64 A3, .int .i64 A4, .int .i64 A5] 51)).cell? ⟨w3.heap.size, 1, none⟩ = some (.int .i64 A1) := by simp
    have p2 : (w3.alloc (.cells #[.int .i64 A0, .int .i64 A1, .int .i64 A2, .int .i64 A3, .int .i64 A4, .int .i64 A5] 51)).cell? ⟨w3.heap.size, 2, none⟩ = some (.int .i64 A2) := by simp
    have p3 : (w3.alloc (.cells #[.int .i64 A0, .int .i64 A1, .int .i64 A2, .int .i64 A3, .int .i64 A4, .int .i64 A5] 51)).cell? ⟨w3.heap.size, 3, none⟩ = some (.int .i64 A3) := by simp
    have p4 : (w3.alloc (.cells #[.int .i64 A0, .int .i64 A1, .int .i64 A2, .int .i64 A3, .int .i64 A4, .int .i64 A5] 51)).cell? ⟨w3.heap.size, 4, none⟩ = some (.int .i64 A4) := by simp
    have p5 : (w3.alloc (.cells #[.int .i64 A0, .int .i64 A1, .int .i64 A2, .int .i64 A3, .int .i64 A4, .int .i64 A5] 51)).cell? ⟨w3.heap.size, 5, none⟩ = some (.int .i64 A5) := by simp
    obtain ⟨c0, c1, c2⟩ := id bx3
    simp only [Nat.zero_add] at c1 c2
    clear Sl3 Hp2 bx2 T2 hka k2 hb3 hhi2
    go_wp2_with fail
    refine (toBoard_any wd hi s l _ Sl4.out hmax).mono ?_
    rintro e w4 ⟨b4, rfl, hlo4, hhi4, hp4, hb4⟩
    have hkb : Below w4.heap.size w4 (w4.alloc (.cells #[.int .i8 wd, .int .i8 hi, .slice (some ⟨b4, 0, none⟩) l.length l.length] 30)) := by repeat (first | with_reducible exact Below.refl _ _ | (with_reducible refine kSet ?_ ?hB _; case hB => (simp; try omega)) | with_reducible refine kAlloc ?_ _ | with_reducible refine Below.drew ?_ | with_reducible refine kDrewN ?_ _ | with_reducible refine kTrans ?_ (by assumption))
    have Sl5 := Lib.hid (slBelow (slBelow Sl4.out hb4) hkb)
    have bx4 := (bx3.below hb4 k3).below hkb (bx3.below hb4 k3).lt
    have k4 := bx4.lt
    have T4 : Below w.heap.size w (w4.alloc (.cells #[.int .i8 wd, .int .i8 hi, .slice (some ⟨b4, 0, none⟩) l.length l.length] 30)) := kTrans (kTrans T3 hb4) hkb
    have by4 := BdAt.box w4 wd hi (.slice (some ⟨b4, 0, none⟩) l.length l.length) 30
    have Hp5 := Lib.hid (hp4.below hkb hhi4)
    have kw4 := Nat.lt_of_lt_of_le kw hb4.size
    have kb4 := Nat.lt_of_lt_of_le hhi4 hkb.size
    have q0 : (w4.alloc (.cells #[.int .i8 wd, .int .i8 hi, .slice (some ⟨b4, 0, none⟩) l.length l.length] 30)).cell? ⟨w3.heap.size, 0, none⟩ = some (.int .i64 A0) := (hkb.cell (p := ⟨w3.heap.size, 0, none⟩) kw4).trans ((hb4.cell (p := ⟨w3.heap.size, 0, none⟩) kw).trans p0)
    have q1 : (w4.alloc (.cells #[.int .i8 wd, .int .i8 hi, .slice (some ⟨b4, 0, none⟩) l.length l.length] 30)).cell? ⟨w3.heap.size, 1, none⟩ = some (.int .i64 A1) := (hkb.cell (p := ⟨w3.heap.size, 1, none⟩) kw4).trans ((hb4.cell (p := ⟨w3.heap.size, 1, none⟩) kw).trans p1)
    have q2 : (w4.alloc (.cells #[.int .i8 wd, .int .i8 hi, .slice (some ⟨b4, 0, none⟩) l.length l.length] 30)).cell? ⟨w3.heap.size, 2, none⟩ = some (.int .i64 A2) := (hkb.cell (p := ⟨w3.heap.size, 2, none⟩) kw4).trans ((hb4.cell (p := ⟨w3.heap.size, 2, none⟩) kw).trans p2)
    have q3 : (w4.alloc (.cells #[.int .i8 wd, .int .i8 hi, .slice (some ⟨b4, 0, none⟩) l.length l.length] 30)).cell? ⟨w3.heap.size, 3, none⟩ = some (.int .i64 A3) := (hkb.cell (p := ⟨w3.heap.size, 3, none⟩) kw4).trans ((hb4.cell (p := ⟨w3.heap.size, 3, none⟩) kw).trans p3)
    have q4 : (w4.alloc (.cells #[.int .i8 wd, .int .i8 hi, .slice (some ⟨b4, 0, none⟩) l.length l.length] 30)).cell? ⟨w3.heap.size, 4, none⟩ = some (.int .i64 A4) := (hkb.cell (p := ⟨w3.heap.size, 4, none⟩) kw4).trans ((hb4.cell (p := ⟨w3.heap.size, 4, none⟩) kw).trans p4)
    have q5 : (w4.alloc (.cells #[.int .i8 wd, .int .i8 hi, .slice (some ⟨b4, 0, none⟩) l.length l.length] 30)).cell? ⟨w3.heap.size, 5, none⟩ = some (.int .i64 A5) := (hkb.cell (p := ⟨w3.heap.size, 5, none⟩) kw4).trans ((hb4.cell (p := ⟨w3.heap.size, 5, none⟩) kw).trans p5)
    clear Sl4 c0 c1 c2 bx3 hp4 T3 hlo4 hb4 k3 hhi4 kw p0 p1 p2 p3 p4 p5
    go_wp2_with fail
    refine (Hi.out b4 _ Hp5.out kb4).mono ?_
    rintro e w5 ⟨rfl, hb5⟩
    have hkc : Below w5.heap.size w5 (w5.alloc (.cells #[.int .i64 A0, .int .i64 A1, .int .i64 A2, .int .i64 A3, .int .i64 A4, .int .i64 A5] 51)) := by repeat (first | with_reducible exact Below.refl _ _ | (with_reducible refine kSet ?_ ?hB _; case hB => (simp; try omega)) | with_reducible refine kAlloc ?_ _ | with_reducible refine Below.drew ?_ | with_reducible refine kDrewN ?_ _ | with_reducible refine kTrans ?_ (by assumption))
    have T5 : Below w.heap.size w (w5.alloc (.cells #[.int .i64 A0, .int .i64 A1, .int .i64 A2, .int .i64 A3, .int .i64 A4, .int .i64 A5] 51)) := kTrans (kTrans T4 hb5) hkc
    have Sl6 := Lib.hid (slBelow (slBelow Sl5.out hb5) hkc)
    have bx5 := (bx4.below hb5 bx4.lt).below hkc (bx4.below hb5 bx4.lt).lt
    have by5 := (by4.below hb5 by4.lt).below hkc (by4.below hb5 by4.lt).lt
    have Hp6 := Lib.hid ((Hp5.out.below hb5 kb4).below hkc (Nat.lt_of_lt_of_le kb4 hb5.size))
    have kb5 := Nat.lt_of_lt_of_le kb4 (Nat.le_trans hb5.size hkc.size)
    have kw5 : w3.heap.size < w5.heap.size := by have := hb5.size; simp at this; omega
    have r0 : w5.cell? ⟨w3.heap.size, 0, none⟩ = some (.int .i64 A0) := (hb5.cell (p := ⟨w3.heap.size, 0, none⟩) (Nat.lt_of_lt_of_le kw4 hkb.size)).trans q0
    have r1 : w5.cell? ⟨w3.heap.size, 1, none⟩ = some (.int .i64 A1) := (hb5.cell (p := ⟨w3.heap.size, 1, none⟩) (Nat.lt_of_lt_of_le kw4 hkb.size)).trans q1
    have r2 : w5.cell? ⟨w3.heap.size, 2, none⟩ = some (.int .i64 A2) := (hb5.cell (p := ⟨w3.heap.size, 2, none⟩) (Nat.lt_of_lt_of_le kw4 hkb.size)).trans q2
    have r3 : w5.cell? ⟨w3.heap.size, 3, none⟩ = some (.int .i64 A3) := (hb5.cell (p := ⟨w3.heap.size, 3, none⟩) (Nat.lt_of_lt_of_le kw4 hkb.size)).trans q3
    have r4 : w5.cell? ⟨w3.heap.size, 4, none⟩ = some (.int .i64 A4) := (hb5.cell (p := ⟨w3.heap.size, 4, none⟩) (Nat.lt_of_lt_of_le kw4 hkb.size)).trans q4
    have r5 : w5.cell? ⟨w3.heap.size, 5, none⟩ = some (.int .i64 A5) := (hb5.cell (p := ⟨w3.heap.size, 5, none⟩) (Nat.lt_of_lt_of_le kw4 hkb.size)).trans q5
    clear Sl5 Hp5 bx4 by4 T4 hb5 hkc hkb kb4 k4 kw4 q0 q1 q2 q3 q4 q5
    go_wp2_with fail
    refine (eqInt64A6_same A0 A1 A2 A3 A4 A5 _).mono ?_
    rintro e w6 ⟨rfl, hb6⟩
    have T6 : Below w.heap.size w w6 := kTrans T5 hb6
    have Sl7 := Lib.hid (slBelow Sl6.out hb6)
    have bx6 := bx5.below hb6 bx5.lt
    have by6 := by5.below hb6 by5.lt
    have hp7 := Hp6.out.below hb6 kb5
    have kb6 := Nat.lt_of_lt_of_le kb5 hb6.size
    have Hp7 := Lib.hid hp7
    obtain ⟨c0, c1, c2⟩ := id bx6
    obtain ⟨d0, d1, d2⟩ := id by6
    have hbx := bx6.lt
    have hby := by6.lt
    simp only [Nat.zero_add] at c1 c2 d1 d2
    clear Sl6 Hp6 bx5 by5 T5 hb6 kb5 kw5 hp7 r0 r1 r2 r3 r4 r5
    go_wp2_with fail
    go_region_held3 (fun w' => w'.cell? ⟨w.heap.size, 0, none⟩ = some (.int .i8 wd) ∧ w'.cell? ⟨w.heap.size, 1, none⟩ = some (.int .i8 hi) ∧ w'.cell? ⟨w.heap.size, 2, none⟩ = some s ∧ w'.cell? ⟨w4.heap.size, 0, none⟩ = some (.int .i8 wd) ∧ w'.cell? ⟨w4.heap.size, 1, none⟩ = some (.int .i8 hi) ∧ w'.cell? ⟨w4.heap.size, 2, none⟩ = some (.slice (some ⟨b4, 0, none⟩) l.length l.length)) (go_keep)
      (first
      | (go_at_call 21
         refine (eqBoard_same wd hi b4 0 b8 0 _ _ _ l _ rfl (by exact Hp7.out.below (kTrans (Below.drew (Below.refl _ _)) hb8) kb6) hp8 (Nat.lt_of_lt_of_le kb6 hb8.size) hhi8 al (Nat.le_refl _) (Nat.le_refl _) hmax).mono ?_
         rintro e w9 ⟨rfl, hb9⟩
         have c0 := (hb9.cell (p := ⟨w.heap.size, 0, none⟩) (Nat.lt_of_lt_of_le hbx hb8.size)).trans c0
         have c1 := (hb9.cell (p := ⟨w.heap.size, 1, none⟩) (Nat.lt_of_lt_of_le hbx hb8.size)).trans c1
         have c2 := (hb9.cell (p := ⟨w.heap.size, 2, none⟩) (Nat.lt_of_lt_of_le hbx hb8.size)).trans c2
         have d0 := (hb9.cell (p := ⟨w4.heap.size, 0, none⟩) (Nat.lt_of_lt_of_le hby hb8.size)).trans d0
         have d1 := (hb9.cell (p := ⟨w4.heap.size, 1, none⟩) (Nat.lt_of_lt_of_le hby hb8.size)).trans d1
         have d2 := (hb9.cell (p := ⟨w4.heap.size, 2, none⟩) (Nat.lt_of_lt_of_le hby hb8.size)).trans d2)
      | (go_at_call 19
         refine (toBoard_any wd hi s l _ (slBelow Sl7.out (Below.drew (Below.refl _ _))) hmax).mono ?_
         rintro e w8 ⟨b8, rfl, hlo8, hhi8, hp8, hb8⟩
         have c0 := (hb8.cell (p := ⟨w.heap.size, 0, none⟩) hbx).trans c0
         have c1 := (hb8.cell (p := ⟨w.heap.size, 1, none⟩) hbx).trans c1
         have c2 := (hb8.cell (p := ⟨w.heap.size, 2, none⟩) hbx).trans c2
         have d0 := (hb8.cell (p := ⟨w4.heap.size, 0, none⟩) hby).trans d0
         have d1 := (hb8.cell (p := ⟨w4.heap.size, 1, none⟩) hby).trans d1
         have d2 := (hb8.cell (p := ⟨w4.heap.size, 2, none⟩) hby).trans d2))
    have T9 := kTrans T6 (kTrans (kTrans (Below.drew (Below.refl w6.heap.size w6)) hb8) hb9)
    clear hb8 hb9 T6 Hp7 Sl7
    go_wp2
    go_ret
    exact ⟨rfl, T9⟩

set_option maxRecDepth 100000 in
theorem lifted (os : Os) (started : os.Started) (H : Type) (enc : TypeId × Value → H) :
    ReturnsInHanded {} Try.checked os 8 .any (Rows.fnExactCountKindsSpec.pre6 enc Try.prog Try.f8 Rows.fnExactCountKindsRow.domain false) (Rows.fnExactCountKindsSpec.post enc Try.prog Try.f8 false true false false) := by
  refine returnsInHanded_of_change (C := Try.checked) own started (by kernel_rfl) Try.func8
    (ChangeSpec.witness6 (enc := enc) (C := Try.checked) false ⟨#[], #[.agg #[.int .i8 0, .int .i8 0, .slice none 0 0]], []⟩ 8 (by kernel_rfl) (by kernel_rfl) (by kernel_rfl) (by kernel_rfl)) ?_
  intro W base args ds gs before hval0 hW hcnd _
  have hval : ∀ (j : Nat) t v, Try.f8.params[j]? = some t → args[j]? = some v → Value.okWide Try.prog W .any base t v := hval0
  have hW' := hW
  obtain ⟨p, q, hA0, hV, rfl, hfz, hnd⟩ := hW
  have hA : DataW.TrodAll enc Try.prog W 0 (fun _ => true) true Try.f8.params.toList args.toList ds p := hA0
  rw [Try.params8] at hA hval
  have r_ := hA
  obtain ⟨v0, vs0, d0, ds0, pp0, qq0, hargs0, hds0, _, h0, r_⟩ := trodAll_cons r_
  obtain ⟨hv_, hd_, _⟩ := trodAll_nil r_
  subst hv_ hd_
  obtain rfl : args = #[v0] := by cases args; simp_all
  subst hds0
  obtain ⟨f0_, f1_, f2_, e1_, e2_, e3_, e4_, e5_⟩ := board_struct
  obtain ⟨wd0, hi0, s0, l0, rfl, bw0, bh0, sl0, al0, le0⟩ := open_board e1_ e2_ board_cells e3_ e4_ e5_ piece_cells piece_flat (hval 0 25 v0 rfl rfl) h0
  refine (walk (w := W) wd0 hi0 s0 l0 bw0 bh0 sl0 al0 le0).mono fun e W' ⟨he, hg⟩ => ?_
  subst he
  exact ⟨_, rfl, law_post kids full Try.underlying4 (by decide) rfl rfl rfl hW' hg⟩

theorem over : Rows.fnExactCountKindsRow.holds Try.pinned (OpenSpec.ofChange Rows.fnExactCountKindsSpec) :=
  OpenClaim.holds_of_wide 8 Try.f8 rfl rfl rfl rfl rfl rfl rfl ⟨rfl, rfl, rfl, rfl, rfl⟩ rfl rfl rfl rfl rfl (by kernel_rfl) Try.func8 (by kernel_rfl)
    (of_decide_eq_true (by kernel_rfl)) (by unfold Func.isWrapper; first | (rw [if_pos (by decide +kernel)]; kernel_rfl) | (rw [if_neg (by decide +kernel)]; exact ⟨rfl, rfl⟩))
    (fun os started H enc _ => lifted os started H enc)

/-- The statement. -/
theorem proved : Rows.FnExactCountKindsSaid :=
  over
#print axioms proved
end Go.Proofs.Ythancdlkkfegnaa.CountKinds
