/- 'SameBoard' answers as its model at every argument. No conditions. -/
import Derived.Test.YthancdlkkfegnaaSm
import Derived.Test.YthancdlkkfegnaaArgB
import Derived.Deep.RegionHeld3
namespace Go.Proofs.Ythancdlkkfegnaa.SameBoard
open Go.ChangeShapes Go.WideShapes Go.ChangeAt Go.RowKit
set_option linter.unusedVariables false

theorem slBelow {w w' : World} {l : List Pc} {s : Value} (h : Sl w l s) (hb : Below w.heap.size w w') : Sl w' l s := by
  cases h with
  | empty a cap h => exact .empty a cap h
  | mk b o cap hc hbl hl => exact .mk b o cap (hc.below hb hbl) (Nat.lt_of_lt_of_le hbl hb.size) hl

set_option maxRecDepth 100000 in
set_option maxHeartbeats 8000000 in
theorem walk {w : World} (wd0 hi0 : Int) (s0 : Value) (l0 : List Pc) (bw0 : i8 wd0) (bh0 : i8 hi0) (sl0 : Sl w l0 s0) (al0 : All8 l0) (le0 : l0.length ≤ 9223372036854775807) (wd1 hi1 : Int) (s1 : Value) (l1 : List Pc) (bw1 : i8 wd1) (bh1 : i8 hi1) (sl1 : Sl w l1 s1) (al1 : All8 l1) (le1 : l1.length ≤ 9223372036854775807) :
    Calls Try.prog 4 #[.agg #[.int .i8 wd0, .int .i8 hi0, s0], .agg #[.int .i8 wd1, .int .i8 hi1, s1]] w fun e w' => e = .returned (.bool true) ∧ Below w.heap.size w w' := by
  have ha : Below (w.alloc (.cells #[.int .i8 wd0, .int .i8 hi0, s0] 25)).heap.size (w.alloc (.cells #[.int .i8 wd0, .int .i8 hi0, s0] 25)) ((w.alloc (.cells #[.int .i8 wd0, .int .i8 hi0, s0] 25)).alloc (.cells #[.int .i8 wd1, .int .i8 hi1, s1] 25)) := by repeat (first | with_reducible exact Below.refl _ _ | (with_reducible refine kSet ?_ ?hB _; case hB => (simp; try omega)) | with_reducible refine kAlloc ?_ _ | with_reducible refine Below.drew ?_ | with_reducible refine kDrewN ?_ _ | with_reducible refine kTrans ?_ (by assumption))
  have hk : Below w.heap.size w ((w.alloc (.cells #[.int .i8 wd0, .int .i8 hi0, s0] 25)).alloc (.cells #[.int .i8 wd1, .int .i8 hi1, s1] 25)) := by repeat (first | with_reducible exact Below.refl _ _ | (with_reducible refine kSet ?_ ?hB _; case hB => (simp; try omega)) | with_reducible refine kAlloc ?_ _ | with_reducible refine Below.drew ?_ | with_reducible refine kDrewN ?_ _ | with_reducible refine kTrans ?_ (by assumption))
  have S0 := Lib.hid (slBelow sl0 hk)
  have S1 := Lib.hid (slBelow sl1 hk)
  have bx0 := (BdAt.box w wd0 hi0 s0 25).below ha (by simp)
  have bx1 : BdAt ((w.alloc (.cells #[.int .i8 wd0, .int .i8 hi0, s0] 25)).alloc (.cells #[.int .i8 wd1, .int .i8 hi1, s1] 25)) (w.heap.size + 1) 0 wd1 hi1 s1 := by
    have := BdAt.box (w.alloc (.cells #[.int .i8 wd0, .int .i8 hi0, s0] 25)) wd1 hi1 s1 25
    simpa only [World.size_alloc] using this
  clear sl0 sl1 hk ha
  by_cases hlt0 : 1048576 - (l0.length : Int) < 0
  · go_enter Try.func4, Try.ntmps4
    go_wp2_with fail
    refine (szBoard_any wd0 hi0 s0 l0 _ S0.out 1048576 le0 (by omega) (by omega)).mono ?_
    rw [if_pos hlt0]
    rintro e w1 ⟨rfl, hb1⟩
    go_wp2
    go_ret
    exact ⟨rfl, by repeat (first | with_reducible exact Below.refl _ _ | (with_reducible refine kSet ?_ ?hB _; case hB => (simp; try omega)) | with_reducible refine kAlloc ?_ _ | with_reducible refine Below.drew ?_ | with_reducible refine kDrewN ?_ _ | with_reducible refine kTrans ?_ (by assumption))⟩
  · have h0' : ¬ 1048576 < (l0.length : Int) := by omega
    by_cases hlt1 : 1048576 - (l0.length : Int) - (l1.length : Int) < 0
    · go_enter Try.func4, Try.ntmps4
      go_wp2_with fail
      refine (szBoard_any wd0 hi0 s0 l0 _ S0.out 1048576 le0 (by omega) (by omega)).mono ?_
      rw [if_neg (by omega)]
      rintro e w1 ⟨rfl, hb1⟩
      have S1a := Lib.hid (slBelow S1.out hb1)
      obtain ⟨b0, b1, b2⟩ := bx1.below hb1 bx1.lt
      simp only [Nat.zero_add] at b1 b2
      clear S0 S1 bx0 bx1
      go_wp2_with fail
      refine (szBoard_any wd1 hi1 s1 l1 _ S1a.out _ le1 (by omega) (by omega)).mono ?_
      rw [if_pos (by omega)]
      rintro e w2 ⟨rfl, hb2⟩
      go_wp2
      go_ret
      exact ⟨rfl, by repeat (first | with_reducible exact Below.refl _ _ | (with_reducible refine kSet ?_ ?hB _; case hB => (simp; try omega)) | with_reducible refine kAlloc ?_ _ | with_reducible refine Below.drew ?_ | with_reducible refine kDrewN ?_ _ | with_reducible refine kTrans ?_ (by assumption))⟩
    · have m0 : l0.length ≤ 1048576 := by omega
      have m1 : l1.length ≤ 1048576 := by omega
      have h1' : ¬ 1048576 - (l0.length : Int) < (l1.length : Int) := by omega
      obtain ⟨R, hR⟩ : ∃ R, sameB wd0 hi0 l0 wd1 hi1 l1 = R := ⟨_, rfl⟩
      have HR := Lib.hid hR
      have hRR : (R != R) = false := by simp
      clear hR
      go_enter Try.func4, Try.ntmps4
      go_wp2_with fail
      refine (szBoard_any wd0 hi0 s0 l0 _ S0.out 1048576 le0 (by omega) (by omega)).mono ?_
      rw [if_neg (by omega)]
      rintro e w1 ⟨rfl, hb1⟩
      have S0a := Lib.hid (slBelow S0.out hb1)
      have S1a := Lib.hid (slBelow S1.out hb1)
      have T1 : Below w.heap.size w w1 := by repeat (first | with_reducible exact Below.refl _ _ | (with_reducible refine kSet ?_ ?hB _; case hB => (simp; try omega)) | with_reducible refine kAlloc ?_ _ | with_reducible refine Below.drew ?_ | with_reducible refine kDrewN ?_ _ | with_reducible refine kTrans ?_ (by assumption))
      have bx0a := bx0.below hb1 bx0.lt
      have bx1a := bx1.below hb1 bx1.lt
      obtain ⟨b0, b1, b2⟩ := id bx1a
      simp only [Nat.zero_add] at b1 b2
      clear S0 S1 bx0 bx1 hb1
      go_wp2_with fail
      refine (szBoard_any wd1 hi1 s1 l1 _ S1a.out _ le1 (by omega) (by omega)).mono ?_
      rw [if_neg (by omega)]
      rintro e w2 ⟨rfl, hb2⟩
      have S0b := Lib.hid (slBelow S0a.out hb2)
      have S1b := Lib.hid (slBelow S1a.out hb2)
      have T2 : Below w.heap.size w w2 := kTrans T1 hb2
      have bx0b := bx0a.below hb2 bx0a.lt
      have bx1b := bx1a.below hb2 bx1a.lt
      have k0 := bx0b.lt
      have k1 := bx1b.lt
      clear b0 b1 b2
      obtain ⟨a0, a1, a2⟩ := bx0b
      obtain ⟨b0, b1, b2⟩ := bx1b
      simp only [Nat.zero_add] at a1 a2 b1 b2
      clear S0a S1a bx0a bx1a hb2 T1
      go_wp2_with fail
      go_region_held3 (fun w' => w'.cell? ⟨w.heap.size, 0, none⟩ = some (.int .i8 wd0) ∧ w'.cell? ⟨w.heap.size, 1, none⟩ = some (.int .i8 hi0) ∧ w'.cell? ⟨w.heap.size, 2, none⟩ = some (s0) ∧ w'.cell? ⟨w.heap.size + 1, 0, none⟩ = some (.int .i8 wd1) ∧ w'.cell? ⟨w.heap.size + 1, 1, none⟩ = some (.int .i8 hi1) ∧ w'.cell? ⟨w.heap.size + 1, 2, none⟩ = some (s1)) (go_keep)
        (first
        | (go_at_call 22
           refine (specSameBoard_any ba bb wd0 hi0 wd1 hi1 l0 l1 _ (Pa.out.below hbb za) Pb.out (Nat.lt_of_lt_of_le za hbb.size) zb m0 m1 R HR.out).mono ?_
           rintro e wc ⟨rfl, hbc⟩
           have a0 := (hbc.cell (p := ⟨w.heap.size, 0, none⟩) k0b).trans a0
           have a1 := (hbc.cell (p := ⟨w.heap.size, 1, none⟩) k0b).trans a1
           have a2 := (hbc.cell (p := ⟨w.heap.size, 2, none⟩) k0b).trans a2
           have b0 := (hbc.cell (p := ⟨w.heap.size + 1, 0, none⟩) k1b).trans b0
           have b1 := (hbc.cell (p := ⟨w.heap.size + 1, 1, none⟩) k1b).trans b1
           have b2 := (hbc.cell (p := ⟨w.heap.size + 1, 2, none⟩) k1b).trans b2)
        | (go_at_call 19
           refine (toBoard_any wd1 hi1 s1 l1 _ (slBelow S1b.out (kTrans (Below.drew (Below.refl _ _)) hba)) m1).mono ?_
           rintro e wb ⟨bb, rfl, hlob, zb, hpb, hbb⟩
           have Pb := Lib.hid hpb
           clear hpb
           have k0b := Nat.lt_of_lt_of_le k0a hbb.size
           have k1b := Nat.lt_of_lt_of_le k1a hbb.size
           have a0 := (hbb.cell (p := ⟨w.heap.size, 0, none⟩) k0a).trans a0
           have a1 := (hbb.cell (p := ⟨w.heap.size, 1, none⟩) k0a).trans a1
           have a2 := (hbb.cell (p := ⟨w.heap.size, 2, none⟩) k0a).trans a2
           have b0 := (hbb.cell (p := ⟨w.heap.size + 1, 0, none⟩) k1a).trans b0
           have b1 := (hbb.cell (p := ⟨w.heap.size + 1, 1, none⟩) k1a).trans b1
           have b2 := (hbb.cell (p := ⟨w.heap.size + 1, 2, none⟩) k1a).trans b2)
        | (go_at_call 19
           refine (toBoard_any wd0 hi0 s0 l0 _ (slBelow S0b.out (Below.drew (Below.refl _ _))) m0).mono ?_
           rintro e wa ⟨ba, rfl, hloa, za, hpa, hba⟩
           have Pa := Lib.hid hpa
           clear hpa
           have k0a := Nat.lt_of_lt_of_le k0 hba.size
           have k1a := Nat.lt_of_lt_of_le k1 hba.size
           have a0 := (hba.cell (p := ⟨w.heap.size, 0, none⟩) k0).trans a0
           have a1 := (hba.cell (p := ⟨w.heap.size, 1, none⟩) k0).trans a1
           have a2 := (hba.cell (p := ⟨w.heap.size, 2, none⟩) k0).trans a2
           have b0 := (hba.cell (p := ⟨w.heap.size + 1, 0, none⟩) k1).trans b0
           have b1 := (hba.cell (p := ⟨w.heap.size + 1, 1, none⟩) k1).trans b1
           have b2 := (hba.cell (p := ⟨w.heap.size + 1, 2, none⟩) k1).trans b2))
      have hb2c : Below w2.heap.size w2 wc := kTrans (kTrans (kTrans (Below.drew (Below.refl _ _)) hba) hbb) hbc
      have T3 : Below w.heap.size w wc := kTrans T2 hb2c
      have S0c := Lib.hid (slBelow S0b.out hb2c)
      have S1c := Lib.hid (slBelow S1b.out hb2c)
      have k0c := Nat.lt_of_lt_of_le k0 hb2c.size
      have k1c := Nat.lt_of_lt_of_le k1 hb2c.size
      clear hba hbb hbc hb2c S0b S1b T2 Pa Pb za zb hloa hlob k0 k1 k0a k1a k0b k1b
      go_wp2_with fail
      refine (toBoard_any wd0 hi0 s0 l0 _ S0c.out m0).mono ?_
      rintro e w4 ⟨b4, rfl, hlo4, z4, hp4, hb4⟩
      have ka : Below w4.heap.size w4 (w4.alloc (.cells #[.int .i8 wd0, .int .i8 hi0, .slice (some ⟨b4, 0, none⟩) l0.length l0.length] 30)) := by repeat (first | with_reducible exact Below.refl _ _ | (with_reducible refine kSet ?_ ?hB _; case hB => (simp; try omega)) | with_reducible refine kAlloc ?_ _ | with_reducible refine Below.drew ?_ | with_reducible refine kDrewN ?_ _ | with_reducible refine kTrans ?_ (by assumption))
      have x0 : (w4.alloc (.cells #[.int .i8 wd0, .int .i8 hi0, .slice (some ⟨b4, 0, none⟩) l0.length l0.length] 30)).cell? ⟨w4.heap.size, 0, none⟩ = some (.int .i8 wd0) := by simp
      have x1 : (w4.alloc (.cells #[.int .i8 wd0, .int .i8 hi0, .slice (some ⟨b4, 0, none⟩) l0.length l0.length] 30)).cell? ⟨w4.heap.size, 1, none⟩ = some (.int .i8 hi0) := by simp
      have x2 : (w4.alloc (.cells #[.int .i8 wd0, .int .i8 hi0, .slice (some ⟨b4, 0, none⟩) l0.length l0.length] 30)).cell? ⟨w4.heap.size, 2, none⟩ = some (.slice (some ⟨b4, 0, none⟩) l0.length l0.length) := by simp
      have kx : w4.heap.size < (w4.alloc (.cells #[.int .i8 wd0, .int .i8 hi0, .slice (some ⟨b4, 0, none⟩) l0.length l0.length] 30)).heap.size := by simp
      have T4 := kTrans (kTrans T3 hb4) ka
      have S0d := Lib.hid (slBelow (slBelow S0c.out hb4) ka)
      have S1d := Lib.hid (slBelow (slBelow S1c.out hb4) ka)
      have P4 := Lib.hid (hp4.below ka z4)
      have z4' := Nat.lt_of_lt_of_le z4 ka.size
      have hb4k := kTrans hb4 ka
      have a0 := (hb4k.cell (p := ⟨w.heap.size, 0, none⟩) k0c).trans a0
      have a1 := (hb4k.cell (p := ⟨w.heap.size, 1, none⟩) k0c).trans a1
      have a2 := (hb4k.cell (p := ⟨w.heap.size, 2, none⟩) k0c).trans a2
      have b0 := (hb4k.cell (p := ⟨w.heap.size + 1, 0, none⟩) k1c).trans b0
      have b1 := (hb4k.cell (p := ⟨w.heap.size + 1, 1, none⟩) k1c).trans b1
      have b2 := (hb4k.cell (p := ⟨w.heap.size + 1, 2, none⟩) k1c).trans b2
      have k0d := Nat.lt_of_lt_of_le k0c hb4k.size
      have k1d := Nat.lt_of_lt_of_le k1c hb4k.size
      clear S0c S1c T3 hp4 z4 hb4 ka hb4k k0c k1c hlo4
      go_wp2_with fail
      generalize w4.alloc (.cells #[.int .i8 wd0, .int .i8 hi0, .slice (some ⟨b4, 0, none⟩) l0.length l0.length] 30) = w5 at a0 a1 a2 b0 b1 b2 x0 x1 x2 kx T4 S0d S1d P4 z4' k0d k1d ⊢
      refine (toBoard_any wd1 hi1 s1 l1 _ S1d.out m1).mono ?_
      rintro e w6 ⟨b6, rfl, hlo6, z6, hp6, hb6⟩
      have ka : Below w6.heap.size w6 (w6.alloc (.cells #[.int .i8 wd1, .int .i8 hi1, .slice (some ⟨b6, 0, none⟩) l1.length l1.length] 30)) := by repeat (first | with_reducible exact Below.refl _ _ | (with_reducible refine kSet ?_ ?hB _; case hB => (simp; try omega)) | with_reducible refine kAlloc ?_ _ | with_reducible refine Below.drew ?_ | with_reducible refine kDrewN ?_ _ | with_reducible refine kTrans ?_ (by assumption))
      have y0 : (w6.alloc (.cells #[.int .i8 wd1, .int .i8 hi1, .slice (some ⟨b6, 0, none⟩) l1.length l1.length] 30)).cell? ⟨w6.heap.size, 0, none⟩ = some (.int .i8 wd1) := by simp
      have y1 : (w6.alloc (.cells #[.int .i8 wd1, .int .i8 hi1, .slice (some ⟨b6, 0, none⟩) l1.length l1.length] 30)).cell? ⟨w6.heap.size, 1, none⟩ = some (.int .i8 hi1) := by simp
      have y2 : (w6.alloc (.cells #[.int .i8 wd1, .int .i8 hi1, .slice (some ⟨b6, 0, none⟩) l1.length l1.length] 30)).cell? ⟨w6.heap.size, 2, none⟩ = some (.slice (some ⟨b6, 0, none⟩) l1.length l1.length) := by simp
      have ky : w6.heap.size < (w6.alloc (.cells #[.int .i8 wd1, .int .i8 hi1, .slice (some ⟨b6, 0, none⟩) l1.length l1.length] 30)).heap.size := by simp
      have T6 := kTrans (kTrans T4 hb6) ka
      have hb6k := kTrans hb6 ka
      have S0e := Lib.hid (slBelow S0d.out hb6k)
      have S1e := Lib.hid (slBelow S1d.out hb6k)
      have P4e := Lib.hid (P4.out.below hb6k z4')
      have P6 := Lib.hid (hp6.below ka z6)
      have z4e := Nat.lt_of_lt_of_le z4' hb6k.size
      have z6' := Nat.lt_of_lt_of_le z6 ka.size
      have a0 := (hb6k.cell (p := ⟨w.heap.size, 0, none⟩) k0d).trans a0
      have a1 := (hb6k.cell (p := ⟨w.heap.size, 1, none⟩) k0d).trans a1
      have a2 := (hb6k.cell (p := ⟨w.heap.size, 2, none⟩) k0d).trans a2
      have b0 := (hb6k.cell (p := ⟨w.heap.size + 1, 0, none⟩) k1d).trans b0
      have b1 := (hb6k.cell (p := ⟨w.heap.size + 1, 1, none⟩) k1d).trans b1
      have b2 := (hb6k.cell (p := ⟨w.heap.size + 1, 2, none⟩) k1d).trans b2
      have x0 := (hb6k.cell (p := ⟨w4.heap.size, 0, none⟩) kx).trans x0
      have x1 := (hb6k.cell (p := ⟨w4.heap.size, 1, none⟩) kx).trans x1
      have x2 := (hb6k.cell (p := ⟨w4.heap.size, 2, none⟩) kx).trans x2
      have k0e := Nat.lt_of_lt_of_le k0d hb6k.size
      have k1e := Nat.lt_of_lt_of_le k1d hb6k.size
      have kxe := Nat.lt_of_lt_of_le kx hb6k.size
      clear S0d S1d T4 hp6 z6 hb6 ka hb6k k0d k1d hlo6 kx P4 z4'
      go_wp2_with fail
      generalize w6.alloc (.cells #[.int .i8 wd1, .int .i8 hi1, .slice (some ⟨b6, 0, none⟩) l1.length l1.length] 30) = w7 at a0 a1 a2 b0 b1 b2 x0 x1 x2 y0 y1 y2 kxe ky T6 S0e S1e P4e P6 z4e z6' k0e k1e ⊢
      refine (implSameBoard_any b4 b6 wd0 hi0 wd1 hi1 l0 l1 _ P4e.out P6.out z4e z6' m0 m1 R HR.out).mono ?_
      rintro e w8 ⟨rfl, hb8⟩
      have T8 := kTrans T6 hb8
      have S0f := Lib.hid (slBelow S0e.out hb8)
      have S1f := Lib.hid (slBelow S1e.out hb8)
      have P4f := Lib.hid (P4e.out.below hb8 z4e)
      have P6f := Lib.hid (P6.out.below hb8 z6')
      have z4f := Nat.lt_of_lt_of_le z4e hb8.size
      have z6f := Nat.lt_of_lt_of_le z6' hb8.size
      have a0 := (hb8.cell (p := ⟨w.heap.size, 0, none⟩) k0e).trans a0
      have a1 := (hb8.cell (p := ⟨w.heap.size, 1, none⟩) k0e).trans a1
      have a2 := (hb8.cell (p := ⟨w.heap.size, 2, none⟩) k0e).trans a2
      have b0 := (hb8.cell (p := ⟨w.heap.size + 1, 0, none⟩) k1e).trans b0
      have b1 := (hb8.cell (p := ⟨w.heap.size + 1, 1, none⟩) k1e).trans b1
      have b2 := (hb8.cell (p := ⟨w.heap.size + 1, 2, none⟩) k1e).trans b2
      have x0 := (hb8.cell (p := ⟨w4.heap.size, 0, none⟩) kxe).trans x0
      have x1 := (hb8.cell (p := ⟨w4.heap.size, 1, none⟩) kxe).trans x1
      have x2 := (hb8.cell (p := ⟨w4.heap.size, 2, none⟩) kxe).trans x2
      have y0 := (hb8.cell (p := ⟨w6.heap.size, 0, none⟩) ky).trans y0
      have y1 := (hb8.cell (p := ⟨w6.heap.size, 1, none⟩) ky).trans y1
      have y2 := (hb8.cell (p := ⟨w6.heap.size, 2, none⟩) ky).trans y2
      have k0f := Nat.lt_of_lt_of_le k0e hb8.size
      have k1f := Nat.lt_of_lt_of_le k1e hb8.size
      have kxf := Nat.lt_of_lt_of_le kxe hb8.size
      have kyf := Nat.lt_of_lt_of_le ky hb8.size
      clear S0e S1e T6 hb8 k0e k1e kxe ky P4e P6 z4e z6'
      go_wp2_with fail
      go_region_held3 (fun w' => w'.cell? ⟨w.heap.size, 0, none⟩ = some (.int .i8 wd0) ∧ w'.cell? ⟨w.heap.size, 1, none⟩ = some (.int .i8 hi0) ∧ w'.cell? ⟨w.heap.size, 2, none⟩ = some (s0) ∧ w'.cell? ⟨w4.heap.size, 0, none⟩ = some (.int .i8 wd0) ∧ w'.cell? ⟨w4.heap.size, 1, none⟩ = some (.int .i8 hi0) ∧ w'.cell? ⟨w4.heap.size, 2, none⟩ = some (.slice (some ⟨b4, 0, none⟩) l0.length l0.length) ∧ w'.cell? ⟨w.heap.size + 1, 0, none⟩ = some (.int .i8 wd1) ∧ w'.cell? ⟨w.heap.size + 1, 1, none⟩ = some (.int .i8 hi1) ∧ w'.cell? ⟨w.heap.size + 1, 2, none⟩ = some (s1) ∧ w'.cell? ⟨w6.heap.size, 0, none⟩ = some (.int .i8 wd1) ∧ w'.cell? ⟨w6.heap.size, 1, none⟩ = some (.int .i8 hi1) ∧ w'.cell? ⟨w6.heap.size, 2, none⟩ = some (.slice (some ⟨b6, 0, none⟩) l1.length l1.length)) (go_keep)
        (first
        | (go_at_call 21
           refine (eqBoard_same wd0 hi0 b4 0 bq 0 _ _ _ l0 _ rfl (by exact P4f.out.below (kTrans (Below.drew (Below.refl _ _)) hbq) z4f) hpq (Nat.lt_of_lt_of_le z4f hbq.size) zq al0 (Nat.le_refl _) (Nat.le_refl _) m0).mono ?_
           rintro e w10 ⟨rfl, hbr⟩
           have a0 := (hbr.cell (p := ⟨w.heap.size, 0, none⟩) (Nat.lt_of_lt_of_le k0f hbq.size)).trans a0
           have a1 := (hbr.cell (p := ⟨w.heap.size, 1, none⟩) (Nat.lt_of_lt_of_le k0f hbq.size)).trans a1
           have a2 := (hbr.cell (p := ⟨w.heap.size, 2, none⟩) (Nat.lt_of_lt_of_le k0f hbq.size)).trans a2
           have x0 := (hbr.cell (p := ⟨w4.heap.size, 0, none⟩) (Nat.lt_of_lt_of_le kxf hbq.size)).trans x0
           have x1 := (hbr.cell (p := ⟨w4.heap.size, 1, none⟩) (Nat.lt_of_lt_of_le kxf hbq.size)).trans x1
           have x2 := (hbr.cell (p := ⟨w4.heap.size, 2, none⟩) (Nat.lt_of_lt_of_le kxf hbq.size)).trans x2
           have b0 := (hbr.cell (p := ⟨w.heap.size + 1, 0, none⟩) (Nat.lt_of_lt_of_le k1f hbq.size)).trans b0
           have b1 := (hbr.cell (p := ⟨w.heap.size + 1, 1, none⟩) (Nat.lt_of_lt_of_le k1f hbq.size)).trans b1
           have b2 := (hbr.cell (p := ⟨w.heap.size + 1, 2, none⟩) (Nat.lt_of_lt_of_le k1f hbq.size)).trans b2
           have y0 := (hbr.cell (p := ⟨w6.heap.size, 0, none⟩) (Nat.lt_of_lt_of_le kyf hbq.size)).trans y0
           have y1 := (hbr.cell (p := ⟨w6.heap.size, 1, none⟩) (Nat.lt_of_lt_of_le kyf hbq.size)).trans y1
           have y2 := (hbr.cell (p := ⟨w6.heap.size, 2, none⟩) (Nat.lt_of_lt_of_le kyf hbq.size)).trans y2)
        | (go_at_call 19
           refine (toBoard_any wd0 hi0 s0 l0 _ (slBelow S0f.out (Below.drew (Below.refl _ _))) m0).mono ?_
           rintro e w9 ⟨bq, rfl, hloq, zq, hpq, hbq⟩
           have a0 := (hbq.cell (p := ⟨w.heap.size, 0, none⟩) k0f).trans a0
           have a1 := (hbq.cell (p := ⟨w.heap.size, 1, none⟩) k0f).trans a1
           have a2 := (hbq.cell (p := ⟨w.heap.size, 2, none⟩) k0f).trans a2
           have x0 := (hbq.cell (p := ⟨w4.heap.size, 0, none⟩) kxf).trans x0
           have x1 := (hbq.cell (p := ⟨w4.heap.size, 1, none⟩) kxf).trans x1
           have x2 := (hbq.cell (p := ⟨w4.heap.size, 2, none⟩) kxf).trans x2
           have b0 := (hbq.cell (p := ⟨w.heap.size + 1, 0, none⟩) k1f).trans b0
           have b1 := (hbq.cell (p := ⟨w.heap.size + 1, 1, none⟩) k1f).trans b1
           have b2 := (hbq.cell (p := ⟨w.heap.size + 1, 2, none⟩) k1f).trans b2
           have y0 := (hbq.cell (p := ⟨w6.heap.size, 0, none⟩) kyf).trans y0
           have y1 := (hbq.cell (p := ⟨w6.heap.size, 1, none⟩) kyf).trans y1
           have y2 := (hbq.cell (p := ⟨w6.heap.size, 2, none⟩) kyf).trans y2))
      have hqr : Below w8.heap.size w8 w10 := kTrans (kTrans (Below.drew (Below.refl _ _)) hbq) hbr
      have T10 := kTrans T8 hqr
      have S1g := Lib.hid (slBelow S1f.out hqr)
      have P6g := Lib.hid (P6f.out.below hqr z6f)
      have z6g := Nat.lt_of_lt_of_le z6f hqr.size
      have k1g := Nat.lt_of_lt_of_le k1f hqr.size
      have kyg := Nat.lt_of_lt_of_le kyf hqr.size
      clear S0f S1f T8 hbq hbr hqr P4f P6f z4f z6f k0f k1f kxf kyf hpq zq hloq a0 a1 a2 x0 x1 x2
      go_wp2_with fail
      go_region_held3 (fun w' => w'.cell? ⟨w.heap.size + 1, 0, none⟩ = some (.int .i8 wd1) ∧ w'.cell? ⟨w.heap.size + 1, 1, none⟩ = some (.int .i8 hi1) ∧ w'.cell? ⟨w.heap.size + 1, 2, none⟩ = some (s1) ∧ w'.cell? ⟨w6.heap.size, 0, none⟩ = some (.int .i8 wd1) ∧ w'.cell? ⟨w6.heap.size, 1, none⟩ = some (.int .i8 hi1) ∧ w'.cell? ⟨w6.heap.size, 2, none⟩ = some (.slice (some ⟨b6, 0, none⟩) l1.length l1.length)) (go_keep)
        (first
        | (go_at_call 21
           refine (eqBoard_same wd1 hi1 b6 0 bq 0 _ _ _ l1 _ rfl (by exact P6g.out.below (kTrans (Below.drew (Below.refl _ _)) hbq) z6g) hpq (Nat.lt_of_lt_of_le z6g hbq.size) zq al1 (Nat.le_refl _) (Nat.le_refl _) m1).mono ?_
           rintro e w12 ⟨rfl, hbr⟩
           have b0 := (hbr.cell (p := ⟨w.heap.size + 1, 0, none⟩) (Nat.lt_of_lt_of_le k1g hbq.size)).trans b0
           have b1 := (hbr.cell (p := ⟨w.heap.size + 1, 1, none⟩) (Nat.lt_of_lt_of_le k1g hbq.size)).trans b1
           have b2 := (hbr.cell (p := ⟨w.heap.size + 1, 2, none⟩) (Nat.lt_of_lt_of_le k1g hbq.size)).trans b2
           have y0 := (hbr.cell (p := ⟨w6.heap.size, 0, none⟩) (Nat.lt_of_lt_of_le kyg hbq.size)).trans y0
           have y1 := (hbr.cell (p := ⟨w6.heap.size, 1, none⟩) (Nat.lt_of_lt_of_le kyg hbq.size)).trans y1
           have y2 := (hbr.cell (p := ⟨w6.heap.size, 2, none⟩) (Nat.lt_of_lt_of_le kyg hbq.size)).trans y2)
        | (go_at_call 19
           refine (toBoard_any wd1 hi1 s1 l1 _ (slBelow S1g.out (Below.drew (Below.refl _ _))) m1).mono ?_
           rintro e w11 ⟨bq, rfl, hloq, zq, hpq, hbq⟩
           have b0 := (hbq.cell (p := ⟨w.heap.size + 1, 0, none⟩) k1g).trans b0
           have b1 := (hbq.cell (p := ⟨w.heap.size + 1, 1, none⟩) k1g).trans b1
           have b2 := (hbq.cell (p := ⟨w.heap.size + 1, 2, none⟩) k1g).trans b2
           have y0 := (hbq.cell (p := ⟨w6.heap.size, 0, none⟩) kyg).trans y0
           have y1 := (hbq.cell (p := ⟨w6.heap.size, 1, none⟩) kyg).trans y1
           have y2 := (hbq.cell (p := ⟨w6.heap.size, 2, none⟩) kyg).trans y2))
      have hqr : Below w10.heap.size w10 w12 := kTrans (kTrans (Below.drew (Below.refl _ _)) hbq) hbr
      have T12 := kTrans T10 hqr
      clear S1g T10 hbq hbr hqr P6g hpq
      go_wp2
      go_ret
      exact ⟨rfl, T12⟩

set_option maxRecDepth 100000 in
theorem lifted (os : Os) (started : os.Started) (H : Type) (enc : TypeId × Value → H) :
    ReturnsInHanded {} Try.checked os 4 .any (Rows.fnExactSameBoardSpec.pre6 enc Try.prog Try.f4 Rows.fnExactSameBoardRow.domain false) (Rows.fnExactSameBoardSpec.post enc Try.prog Try.f4 false true false false) := by
  refine returnsInHanded_of_change (C := Try.checked) own started (by kernel_rfl) Try.func4
    (ChangeSpec.witness6 (enc := enc) (C := Try.checked) false ⟨#[], #[.agg #[.int .i8 0, .int .i8 0, .slice none 0 0], .agg #[.int .i8 0, .int .i8 0, .slice none 0 0]], []⟩ 8 (by kernel_rfl) (by kernel_rfl) (by kernel_rfl) (by kernel_rfl)) ?_
  intro W base args ds gs before hval0 hW hcnd _
  have hval : ∀ (j : Nat) t v, Try.f4.params[j]? = some t → args[j]? = some v → Value.okWide Try.prog W .any base t v := hval0
  have hW' := hW
  obtain ⟨p, q, hA0, hV, rfl, hfz, hnd⟩ := hW
  have hA : DataW.TrodAll enc Try.prog W 0 (fun _ => true) true Try.f4.params.toList args.toList ds p := hA0
  rw [Try.params4] at hA hval
  have r_ := hA
  obtain ⟨v0, vs0, d0, ds0, pp0, qq0, hargs0, hds0, _, h0, r_⟩ := trodAll_cons r_
  obtain ⟨v1, vs1, d1, ds1, pp1, qq1, hargs1, hds1, _, h1, r_⟩ := trodAll_cons r_
  obtain ⟨hv_, hd_, _⟩ := trodAll_nil r_
  subst hv_ hd_
  subst hargs1 hds1
  obtain rfl : args = #[v0, v1] := by cases args; simp_all
  subst hds0
  obtain ⟨f0_, f1_, f2_, e1_, e2_, e3_, e4_, e5_⟩ := board_struct
  obtain ⟨wd0, hi0, s0, l0, rfl, bw0, bh0, sl0, al0, le0⟩ := open_board e1_ e2_ board_cells e3_ e4_ e5_ piece_cells piece_flat (hval 0 25 v0 rfl rfl) h0
  obtain ⟨f0_, f1_, f2_, e1_, e2_, e3_, e4_, e5_⟩ := board_struct
  obtain ⟨wd1, hi1, s1, l1, rfl, bw1, bh1, sl1, al1, le1⟩ := open_board e1_ e2_ board_cells e3_ e4_ e5_ piece_cells piece_flat (hval 1 25 v1 rfl rfl) h1
  refine (walk (w := W) wd0 hi0 s0 l0 bw0 bh0 sl0 al0 le0 wd1 hi1 s1 l1 bw1 bh1 sl1 al1 le1).mono fun e W' ⟨he, hg⟩ => ?_
  subst he
  exact ⟨_, rfl, law_post kids full Try.underlying4 (by decide) rfl rfl rfl hW' hg⟩

theorem over : Rows.fnExactSameBoardRow.holds Try.pinned (OpenSpec.ofChange Rows.fnExactSameBoardSpec) :=
  OpenClaim.holds_of_wide 4 Try.f4 rfl rfl rfl rfl rfl rfl rfl ⟨rfl, rfl, rfl, rfl, rfl⟩ rfl rfl rfl rfl rfl (by kernel_rfl) Try.func4 (by kernel_rfl)
    (of_decide_eq_true (by kernel_rfl)) (by unfold Func.isWrapper; first | (rw [if_pos (by decide +kernel)]; kernel_rfl) | (rw [if_neg (by decide +kernel)]; exact ⟨rfl, rfl⟩))
    (fun os started H enc _ => lifted os started H enc)

/-- The statement. -/
theorem proved : Rows.FnExactSameBoardSaid :=
  over
#print axioms proved
end Go.Proofs.Ythancdlkkfegnaa.SameBoard
