/- 'SameMachine' answers as its model at every argument. No conditions. -/
import Derived.Test.YtmabcfepkcpcoaaSc
import Derived.Test.YtmabcfepkcpcoaaG1
import Derived.Deep.RegionHeld3
namespace Go.Proofs.Ytmabcfepkcpcoaa.SameMachine
open Go.ChangeShapes Go.WideShapes Go.ChangeAt Go.RowKit Go.Deep
set_option linter.unusedVariables false

def MS (w : World) (v v1 v2 : Value) (l : List Pc) (p : List Po) (c : List Cl) : Prop := Sl w l v ∧ SlPo w p v1 ∧ SlCl w c v2
theorem MS.below {w w' : World} {v v1 v2 : Value} {l : List Pc} {p : List Po} {c : List Cl} (h : MS w v v1 v2 l p c) (hb : Below w.heap.size w w') : MS w' v v1 v2 l p c := ⟨mSl h.1 hb, h.2.1.below hb, h.2.2.below hb⟩
def PK (w : World) (b k q : Nat) (l : List Pc) (p : List Po) (c : List Cl) : Prop := PcsAt w b 0 l ∧ PosAt w k 0 p ∧ ClsAt w q 0 c ∧ b < w.heap.size ∧ k < w.heap.size ∧ q < w.heap.size
theorem PK.below {w w' : World} {b k q : Nat} {l : List Pc} {p : List Po} {c : List Cl} (h : PK w b k q l p c) (hb : Below w.heap.size w w') : PK w' b k q l p c :=
  ⟨h.1.below hb h.2.2.2.1, h.2.1.below hb h.2.2.2.2.1, h.2.2.1.below hb h.2.2.2.2.2, Nat.lt_of_lt_of_le h.2.2.2.1 hb.size, Nat.lt_of_lt_of_le h.2.2.2.2.1 hb.size, Nat.lt_of_lt_of_le h.2.2.2.2.2 hb.size⟩
theorem toM (wd hi : Int) (v v1 v2 : Value) (l : List Pc) (p : List Po) (c : List Cl) (w : World) (h : MS w v v1 v2 l p c) (m0 : l.length ≤ 1048576) (m1 : p.length ≤ 1048576) (m2 : c.length ≤ 1048576) :
    Calls Try.prog 8 #[.agg #[.int .i8 wd, .int .i8 hi, v, v1, v2]] w fun e w' => ∃ b k q, e = .returned (.agg #[.int .i8 wd, .int .i8 hi, .slice (some ⟨b, 0, none⟩) l.length l.length, .slice (some ⟨k, 0, none⟩) p.length p.length, .slice (some ⟨q, 0, none⟩) c.length c.length]) ∧ PK w' b k q l p c ∧ Below w.heap.size w w' :=
  (toMachine_any wd hi v v1 v2 l p c w h.1 h.2.1 h.2.2 m0 m1 m2).mono fun e w' ⟨b, k, q, he, p0, p1, p2, z0, z1, z2, _, _, _, hb⟩ => ⟨b, k, q, he, ⟨p0, p1, p2, z0, z1, z2⟩, hb⟩
theorem eqM (wd hi : Int) (b k q b' k' q' : Nat) (l : List Pc) (p : List Po) (c : List Cl) (w : World) (h : PK w b k q l p c) (h' : PK w b' k' q' l p c) (h8 : All8 l) (h81 : PosWf p) (h82 : ClsWf c) (bw : i8 wd) (bh : i8 hi) (m0 : l.length ≤ 1048576) (m1 : p.length ≤ 1048576) (m2 : c.length ≤ 1048576) :
    Calls Try.prog 10 #[.agg #[.int .i8 wd, .int .i8 hi, .slice (some ⟨b, 0, none⟩) l.length l.length, .slice (some ⟨k, 0, none⟩) p.length p.length, .slice (some ⟨q, 0, none⟩) c.length c.length], .agg #[.int .i8 wd, .int .i8 hi, .slice (some ⟨b', 0, none⟩) l.length l.length, .slice (some ⟨k', 0, none⟩) p.length p.length, .slice (some ⟨q', 0, none⟩) c.length c.length]] w fun e w' => e = .returned (.bool true) ∧ Below w.heap.size w w' :=
  eqMachine_any wd hi _ _ _ _ _ _ l p c w (Sl.mk b 0 _ h.1 h.2.2.2.1 (Nat.le_refl _)) (SlPo.mk k 0 _ h.2.1 h.2.2.2.2.1 (Nat.le_refl _)) (SlCl.mk q 0 _ h.2.2.1 h.2.2.2.2.2 (Nat.le_refl _)) (Sl.mk b' 0 _ h'.1 h'.2.2.2.1 (Nat.le_refl _)) (SlPo.mk k' 0 _ h'.2.1 h'.2.2.2.2.1 (Nat.le_refl _)) (SlCl.mk q' 0 _ h'.2.2.1 h'.2.2.2.2.2 (Nat.le_refl _)) h8 h81 h82 bw bh m0 m1 m2

set_option maxRecDepth 100000 in
set_option maxHeartbeats 16000000 in
theorem walk {w : World} (wd0 hi0 : Int) (s0 t0 u0 : Value) (l0 : List Pc) (p0 : List Po) (c0 : List Cl) (bw0 : i8 wd0) (bh0 : i8 hi0) (sl0 : Sl w l0 s0) (al0 : All8 l0) (le0 : l0.length ≤ 9223372036854775807) (sp0 : SlPo w p0 t0) (ap0 : PosWf p0) (lp0 : p0.length ≤ maxLen) (sc0 : SlCl w c0 u0) (ac0 : ClsWf c0) (lc0 : c0.length ≤ maxLen) (wd1 hi1 : Int) (s1 t1 u1 : Value) (l1 : List Pc) (p1 : List Po) (c1 : List Cl) (bw1 : i8 wd1) (bh1 : i8 hi1) (sl1 : Sl w l1 s1) (al1 : All8 l1) (le1 : l1.length ≤ 9223372036854775807) (sp1 : SlPo w p1 t1) (ap1 : PosWf p1) (lp1 : p1.length ≤ maxLen) (sc1 : SlCl w c1 u1) (ac1 : ClsWf c1) (lc1 : c1.length ≤ maxLen) :
    Calls Try.prog 4 #[.agg #[.int .i8 wd0, .int .i8 hi0, s0, t0, u0], .agg #[.int .i8 wd1, .int .i8 hi1, s1, t1, u1]] w fun e w' => e = .returned (.bool true) ∧ Below w.heap.size w w' := by
  unfold maxLen at lp0 lc0 lp1 lc1
  have ha : Below (w.alloc (.cells #[.int .i8 wd0, .int .i8 hi0, s0, t0, u0] 29)).heap.size (w.alloc (.cells #[.int .i8 wd0, .int .i8 hi0, s0, t0, u0] 29)) ((w.alloc (.cells #[.int .i8 wd0, .int .i8 hi0, s0, t0, u0] 29)).alloc (.cells #[.int .i8 wd1, .int .i8 hi1, s1, t1, u1] 29)) := by repeat (first | with_reducible exact Below.refl _ _ | (with_reducible refine kSet ?_ ?hB _; case hB => (simp; try omega)) | with_reducible refine kAlloc ?_ _ | with_reducible refine Below.drew ?_ | with_reducible refine kDrewN ?_ _ | with_reducible refine kTrans ?_ (by assumption))
  have hk : Below w.heap.size w ((w.alloc (.cells #[.int .i8 wd0, .int .i8 hi0, s0, t0, u0] 29)).alloc (.cells #[.int .i8 wd1, .int .i8 hi1, s1, t1, u1] 29)) := by repeat (first | with_reducible exact Below.refl _ _ | (with_reducible refine kSet ?_ ?hB _; case hB => (simp; try omega)) | with_reducible refine kAlloc ?_ _ | with_reducible refine Below.drew ?_ | with_reducible refine kDrewN ?_ _ | with_reducible refine kTrans ?_ (by assumption))
  have S0 := Lib.hid (MS.below ⟨sl0, sp0, sc0⟩ hk)
  have S1 := Lib.hid (MS.below ⟨sl1, sp1, sc1⟩ hk)
  have bx0 := (McAt.box w wd0 hi0 s0 t0 u0 29).below ha (by simp)
  have bx1 : McAt ((w.alloc (.cells #[.int .i8 wd0, .int .i8 hi0, s0, t0, u0] 29)).alloc (.cells #[.int .i8 wd1, .int .i8 hi1, s1, t1, u1] 29)) (w.heap.size + 1) wd1 hi1 s1 t1 u1 := by
    have := McAt.box (w.alloc (.cells #[.int .i8 wd0, .int .i8 hi0, s0, t0, u0] 29)) wd1 hi1 s1 t1 u1 29
    simpa only [World.size_alloc] using this
  clear sl0 sp0 sc0 sl1 sp1 sc1 hk ha
  by_cases hlt0 : 1048576 - (l0.length : Int) - (p0.length : Int) - (c0.length : Int) < 0
  · go_enter Try.func4, Try.ntmps4
    go_wp2_with fail
    refine (szMachine_any wd0 hi0 s0 t0 u0 l0 p0 c0 _ S0.out.1 S0.out.2.1 S0.out.2.2 (1048576) le0 lp0 lc0 (by omega) (by omega)).mono ?_
    rw [if_pos (by omega)]
    rintro e w1 ⟨rfl, hb1⟩
    go_wp2
    go_ret
    exact ⟨rfl, by repeat (first | with_reducible exact Below.refl _ _ | (with_reducible refine kSet ?_ ?hB _; case hB => (simp; try omega)) | with_reducible refine kAlloc ?_ _ | with_reducible refine Below.drew ?_ | with_reducible refine kDrewN ?_ _ | with_reducible refine kTrans ?_ (by assumption))⟩
  · have h0' : ¬ 1048576 - (l0.length : Int) - (p0.length : Int) < (c0.length : Int) := by omega
    by_cases hlt1 : 1048576 - (l0.length : Int) - (p0.length : Int) - (c0.length : Int) - (l1.length : Int) - (p1.length : Int) - (c1.length : Int) < 0
    · go_enter Try.func4, Try.ntmps4
      go_wp2_with fail
      refine (szMachine_any wd0 hi0 s0 t0 u0 l0 p0 c0 _ S0.out.1 S0.out.2.1 S0.out.2.2 (1048576) le0 lp0 lc0 (by omega) (by omega)).mono ?_
      rw [if_neg (by omega)]
      rintro e w1 ⟨rfl, hb1⟩
      have S1a := Lib.hid (S1.out.below hb1)
      obtain ⟨b0, b1, b2, b3, b4⟩ := bx1.below hb1 bx1.lt
      clear S0 S1 bx0 bx1
      go_wp2_with fail
      refine (szMachine_any wd1 hi1 s1 t1 u1 l1 p1 c1 _ S1a.out.1 S1a.out.2.1 S1a.out.2.2 (1048576 - (l0.length : Int) - (p0.length : Int) - (c0.length : Int)) le1 lp1 lc1 (by omega) (by omega)).mono ?_
      rw [if_pos (by omega)]
      rintro e w2 ⟨rfl, hb2⟩
      go_wp2
      go_ret
      exact ⟨rfl, by repeat (first | with_reducible exact Below.refl _ _ | (with_reducible refine kSet ?_ ?hB _; case hB => (simp; try omega)) | with_reducible refine kAlloc ?_ _ | with_reducible refine Below.drew ?_ | with_reducible refine kDrewN ?_ _ | with_reducible refine kTrans ?_ (by assumption))⟩
    · have h1' : ¬ 1048576 - (l0.length : Int) - (p0.length : Int) - (c0.length : Int) - (l1.length : Int) - (p1.length : Int) < (c1.length : Int) := by omega
      have ml0 : l0.length ≤ 1048576 := by omega
      have mp0 : p0.length ≤ 1048576 := by omega
      have mc0 : c0.length ≤ 1048576 := by omega
      have ml1 : l1.length ≤ 1048576 := by omega
      have mp1 : p1.length ≤ 1048576 := by omega
      have mc1 : c1.length ≤ 1048576 := by omega
      obtain ⟨R, hR⟩ : ∃ R, sameM wd0 hi0 l0 p0 c0 wd1 hi1 l1 p1 c1 = R := ⟨_, rfl⟩
      have HR := Lib.hid hR
      have hRR : (R != R) = false := by simp
      clear hR
      go_enter Try.func4, Try.ntmps4
      go_wp2_with fail
      refine (szMachine_any wd0 hi0 s0 t0 u0 l0 p0 c0 _ S0.out.1 S0.out.2.1 S0.out.2.2 (1048576) le0 lp0 lc0 (by omega) (by omega)).mono ?_
      rw [if_neg (by omega)]
      rintro e w1 ⟨rfl, hb1⟩
      have S0a := Lib.hid (S0.out.below hb1)
      have S1a := Lib.hid (S1.out.below hb1)
      have T1 : Below w.heap.size w w1 := by repeat (first | with_reducible exact Below.refl _ _ | (with_reducible refine kSet ?_ ?hB _; case hB => (simp; try omega)) | with_reducible refine kAlloc ?_ _ | with_reducible refine Below.drew ?_ | with_reducible refine kDrewN ?_ _ | with_reducible refine kTrans ?_ (by assumption))
      have bx0a := bx0.below hb1 bx0.lt
      have bx1a := bx1.below hb1 bx1.lt
      obtain ⟨b0, b1, b2, b3, b4⟩ := id bx1a
      clear S0 S1 bx0 bx1 hb1
      go_wp2_with fail
      refine (szMachine_any wd1 hi1 s1 t1 u1 l1 p1 c1 _ S1a.out.1 S1a.out.2.1 S1a.out.2.2 (1048576 - (l0.length : Int) - (p0.length : Int) - (c0.length : Int)) le1 lp1 lc1 (by omega) (by omega)).mono ?_
      rw [if_neg (by omega)]
      rintro e w2 ⟨rfl, hb2⟩
      have S0b := Lib.hid (S0a.out.below hb2)
      have S1b := Lib.hid (S1a.out.below hb2)
      have T2 : Below w.heap.size w w2 := kTrans T1 hb2
      have bx0b := bx0a.below hb2 bx0a.lt
      have bx1b := bx1a.below hb2 bx1a.lt
      have k0 := bx0b.lt
      have k1 := bx1b.lt
      clear b0 b1 b2 b3 b4
      obtain ⟨a0, a1, a2, a3, a4⟩ := bx0b
      obtain ⟨b0, b1, b2, b3, b4⟩ := bx1b
      clear S0a S1a bx0a bx1a hb2 T1
      go_wp2_with fail
      go_region_held3 (fun w' => w'.cell? ⟨w.heap.size, 0, none⟩ = some (.int .i8 wd0) ∧ w'.cell? ⟨w.heap.size, 1, none⟩ = some (.int .i8 hi0) ∧ w'.cell? ⟨w.heap.size, 2, none⟩ = some (s0) ∧ w'.cell? ⟨w.heap.size, 3, none⟩ = some (t0) ∧ w'.cell? ⟨w.heap.size, 4, none⟩ = some (u0) ∧ w'.cell? ⟨w.heap.size + 1, 0, none⟩ = some (.int .i8 wd1) ∧ w'.cell? ⟨w.heap.size + 1, 1, none⟩ = some (.int .i8 hi1) ∧ w'.cell? ⟨w.heap.size + 1, 2, none⟩ = some (s1) ∧ w'.cell? ⟨w.heap.size + 1, 3, none⟩ = some (t1) ∧ w'.cell? ⟨w.heap.size + 1, 4, none⟩ = some (u1)) (go_keep)
        (first
        | (go_at_call 11
           have Pa' := Pa.out.below hbb
           refine (specSameMachine_any xab xak xaq xbb xbk xbq wd0 hi0 wd1 hi1 l0 l1 p0 p1 c0 c1 _ Pa'.1 Pb.out.1 Pa'.2.1 Pb.out.2.1 Pa'.2.2.1 Pb.out.2.2.1 Pa'.2.2.2.1 Pb.out.2.2.2.1 Pa'.2.2.2.2.1 Pb.out.2.2.2.2.1 Pa'.2.2.2.2.2 Pb.out.2.2.2.2.2 ml0 ml1 mp0 mp1 mc0 mc1 R HR.out).mono ?_
           rintro e wc ⟨rfl, hbc⟩
           have a0 := (hbc.cell (p := ⟨w.heap.size, 0, none⟩) k0b).trans a0
           have a1 := (hbc.cell (p := ⟨w.heap.size, 1, none⟩) k0b).trans a1
           have a2 := (hbc.cell (p := ⟨w.heap.size, 2, none⟩) k0b).trans a2
           have a3 := (hbc.cell (p := ⟨w.heap.size, 3, none⟩) k0b).trans a3
           have a4 := (hbc.cell (p := ⟨w.heap.size, 4, none⟩) k0b).trans a4
           have b0 := (hbc.cell (p := ⟨w.heap.size + 1, 0, none⟩) k1b).trans b0
           have b1 := (hbc.cell (p := ⟨w.heap.size + 1, 1, none⟩) k1b).trans b1
           have b2 := (hbc.cell (p := ⟨w.heap.size + 1, 2, none⟩) k1b).trans b2
           have b3 := (hbc.cell (p := ⟨w.heap.size + 1, 3, none⟩) k1b).trans b3
           have b4 := (hbc.cell (p := ⟨w.heap.size + 1, 4, none⟩) k1b).trans b4)
        | (go_at_call 8
           refine (toM wd1 hi1 s1 t1 u1 l1 p1 c1 _ (S1b.out.below (kTrans (Below.drew (Below.refl _ _)) hba)) ml1 mp1 mc1).mono ?_
           rintro e wb ⟨xbb, xbk, xbq, rfl, hpb, hbb⟩
           have Pb := Lib.hid hpb
           clear hpb
           have k0b := Nat.lt_of_lt_of_le k0a hbb.size
           have k1b := Nat.lt_of_lt_of_le k1a hbb.size
           have a0 := (hbb.cell (p := ⟨w.heap.size, 0, none⟩) k0a).trans a0
           have a1 := (hbb.cell (p := ⟨w.heap.size, 1, none⟩) k0a).trans a1
           have a2 := (hbb.cell (p := ⟨w.heap.size, 2, none⟩) k0a).trans a2
           have a3 := (hbb.cell (p := ⟨w.heap.size, 3, none⟩) k0a).trans a3
           have a4 := (hbb.cell (p := ⟨w.heap.size, 4, none⟩) k0a).trans a4
           have b0 := (hbb.cell (p := ⟨w.heap.size + 1, 0, none⟩) k1a).trans b0
           have b1 := (hbb.cell (p := ⟨w.heap.size + 1, 1, none⟩) k1a).trans b1
           have b2 := (hbb.cell (p := ⟨w.heap.size + 1, 2, none⟩) k1a).trans b2
           have b3 := (hbb.cell (p := ⟨w.heap.size + 1, 3, none⟩) k1a).trans b3
           have b4 := (hbb.cell (p := ⟨w.heap.size + 1, 4, none⟩) k1a).trans b4)
        | (go_at_call 8
           refine (toM wd0 hi0 s0 t0 u0 l0 p0 c0 _ (S0b.out.below (Below.drew (Below.refl _ _))) ml0 mp0 mc0).mono ?_
           rintro e wa ⟨xab, xak, xaq, rfl, hpa, hba⟩
           have Pa := Lib.hid hpa
           clear hpa
           have k0a := Nat.lt_of_lt_of_le k0 hba.size
           have k1a := Nat.lt_of_lt_of_le k1 hba.size
           have a0 := (hba.cell (p := ⟨w.heap.size, 0, none⟩) k0).trans a0
           have a1 := (hba.cell (p := ⟨w.heap.size, 1, none⟩) k0).trans a1
           have a2 := (hba.cell (p := ⟨w.heap.size, 2, none⟩) k0).trans a2
           have a3 := (hba.cell (p := ⟨w.heap.size, 3, none⟩) k0).trans a3
           have a4 := (hba.cell (p := ⟨w.heap.size, 4, none⟩) k0).trans a4
           have b0 := (hba.cell (p := ⟨w.heap.size + 1, 0, none⟩) k1).trans b0
           have b1 := (hba.cell (p := ⟨w.heap.size + 1, 1, none⟩) k1).trans b1
           have b2 := (hba.cell (p := ⟨w.heap.size + 1, 2, none⟩) k1).trans b2
           have b3 := (hba.cell (p := ⟨w.heap.size + 1, 3, none⟩) k1).trans b3
           have b4 := (hba.cell (p := ⟨w.heap.size + 1, 4, none⟩) k1).trans b4))
      have hb2c : Below w2.heap.size w2 wc := kTrans (kTrans (kTrans (Below.drew (Below.refl _ _)) hba) hbb) hbc
      have T3 : Below w.heap.size w wc := kTrans T2 hb2c
      have S0c := Lib.hid (S0b.out.below hb2c)
      have S1c := Lib.hid (S1b.out.below hb2c)
      have k0c := Nat.lt_of_lt_of_le k0 hb2c.size
      have k1c := Nat.lt_of_lt_of_le k1 hb2c.size
      clear hba hbb hbc hb2c S0b S1b T2 Pa Pb k0 k1 k0a k1a k0b k1b
      go_wp2_with fail
      refine (toM wd0 hi0 s0 t0 u0 l0 p0 c0 _ S0c.out ml0 mp0 mc0).mono ?_
      rintro e w4 ⟨rb, rk, rq, rfl, hp4, hb4⟩
      have ka : Below w4.heap.size w4 (w4.alloc (.cells #[.int .i8 wd0, .int .i8 hi0, .slice (some ⟨rb, 0, none⟩) l0.length l0.length, .slice (some ⟨rk, 0, none⟩) p0.length p0.length, .slice (some ⟨rq, 0, none⟩) c0.length c0.length] 38)) := by repeat (first | with_reducible exact Below.refl _ _ | (with_reducible refine kSet ?_ ?hB _; case hB => (simp; try omega)) | with_reducible refine kAlloc ?_ _ | with_reducible refine Below.drew ?_ | with_reducible refine kDrewN ?_ _ | with_reducible refine kTrans ?_ (by assumption))
      obtain ⟨x0, x1, x2, x3, x4⟩ := McAt.box w4 wd0 hi0 (.slice (some ⟨rb, 0, none⟩) l0.length l0.length) (.slice (some ⟨rk, 0, none⟩) p0.length p0.length) (.slice (some ⟨rq, 0, none⟩) c0.length c0.length) 38
      have kx : w4.heap.size < (w4.alloc (.cells #[.int .i8 wd0, .int .i8 hi0, .slice (some ⟨rb, 0, none⟩) l0.length l0.length, .slice (some ⟨rk, 0, none⟩) p0.length p0.length, .slice (some ⟨rq, 0, none⟩) c0.length c0.length] 38)).heap.size := by simp
      have T4 := kTrans (kTrans T3 hb4) ka
      have hb4k := kTrans hb4 ka
      have S0d := Lib.hid (S0c.out.below hb4k)
      have S1d := Lib.hid (S1c.out.below hb4k)
      have P4 := Lib.hid (hp4.below ka)
      have a0 := (hb4k.cell (p := ⟨w.heap.size, 0, none⟩) k0c).trans a0
      have a1 := (hb4k.cell (p := ⟨w.heap.size, 1, none⟩) k0c).trans a1
      have a2 := (hb4k.cell (p := ⟨w.heap.size, 2, none⟩) k0c).trans a2
      have a3 := (hb4k.cell (p := ⟨w.heap.size, 3, none⟩) k0c).trans a3
      have a4 := (hb4k.cell (p := ⟨w.heap.size, 4, none⟩) k0c).trans a4
      have b0 := (hb4k.cell (p := ⟨w.heap.size + 1, 0, none⟩) k1c).trans b0
      have b1 := (hb4k.cell (p := ⟨w.heap.size + 1, 1, none⟩) k1c).trans b1
      have b2 := (hb4k.cell (p := ⟨w.heap.size + 1, 2, none⟩) k1c).trans b2
      have b3 := (hb4k.cell (p := ⟨w.heap.size + 1, 3, none⟩) k1c).trans b3
      have b4 := (hb4k.cell (p := ⟨w.heap.size + 1, 4, none⟩) k1c).trans b4
      have k0d := Nat.lt_of_lt_of_le k0c hb4k.size
      have k1d := Nat.lt_of_lt_of_le k1c hb4k.size
      clear S0c S1c T3 hp4 hb4 ka hb4k k0c k1c
      go_wp2_with fail
      generalize w4.alloc (.cells #[.int .i8 wd0, .int .i8 hi0, .slice (some ⟨rb, 0, none⟩) l0.length l0.length, .slice (some ⟨rk, 0, none⟩) p0.length p0.length, .slice (some ⟨rq, 0, none⟩) c0.length c0.length] 38) = w5 at a0 a1 a2 a3 a4 b0 b1 b2 b3 b4 x0 x1 x2 x3 x4 kx T4 S0d S1d P4 k0d k1d ⊢
      refine (toM wd1 hi1 s1 t1 u1 l1 p1 c1 _ S1d.out ml1 mp1 mc1).mono ?_
      rintro e w6 ⟨yb, yk, yq, rfl, hp6, hb6⟩
      have ka : Below w6.heap.size w6 (w6.alloc (.cells #[.int .i8 wd1, .int .i8 hi1, .slice (some ⟨yb, 0, none⟩) l1.length l1.length, .slice (some ⟨yk, 0, none⟩) p1.length p1.length, .slice (some ⟨yq, 0, none⟩) c1.length c1.length] 38)) := by repeat (first | with_reducible exact Below.refl _ _ | (with_reducible refine kSet ?_ ?hB _; case hB => (simp; try omega)) | with_reducible refine kAlloc ?_ _ | with_reducible refine Below.drew ?_ | with_reducible refine kDrewN ?_ _ | with_reducible refine kTrans ?_ (by assumption))
      obtain ⟨y0, y1, y2, y3, y4⟩ := McAt.box w6 wd1 hi1 (.slice (some ⟨yb, 0, none⟩) l1.length l1.length) (.slice (some ⟨yk, 0, none⟩) p1.length p1.length) (.slice (some ⟨yq, 0, none⟩) c1.length c1.length) 38
      have ky : w6.heap.size < (w6.alloc (.cells #[.int .i8 wd1, .int .i8 hi1, .slice (some ⟨yb, 0, none⟩) l1.length l1.length, .slice (some ⟨yk, 0, none⟩) p1.length p1.length, .slice (some ⟨yq, 0, none⟩) c1.length c1.length] 38)).heap.size := by simp
      have T6 := kTrans (kTrans T4 hb6) ka
      have hb6k := kTrans hb6 ka
      have S0e := Lib.hid (S0d.out.below hb6k)
      have S1e := Lib.hid (S1d.out.below hb6k)
      have P4e := Lib.hid (P4.out.below hb6k)
      have P6 := Lib.hid (hp6.below ka)
      have a0 := (hb6k.cell (p := ⟨w.heap.size, 0, none⟩) k0d).trans a0
      have a1 := (hb6k.cell (p := ⟨w.heap.size, 1, none⟩) k0d).trans a1
      have a2 := (hb6k.cell (p := ⟨w.heap.size, 2, none⟩) k0d).trans a2
      have a3 := (hb6k.cell (p := ⟨w.heap.size, 3, none⟩) k0d).trans a3
      have a4 := (hb6k.cell (p := ⟨w.heap.size, 4, none⟩) k0d).trans a4
      have b0 := (hb6k.cell (p := ⟨w.heap.size + 1, 0, none⟩) k1d).trans b0
      have b1 := (hb6k.cell (p := ⟨w.heap.size + 1, 1, none⟩) k1d).trans b1
      have b2 := (hb6k.cell (p := ⟨w.heap.size + 1, 2, none⟩) k1d).trans b2
      have b3 := (hb6k.cell (p := ⟨w.heap.size + 1, 3, none⟩) k1d).trans b3
      have b4 := (hb6k.cell (p := ⟨w.heap.size + 1, 4, none⟩) k1d).trans b4
      have x0 := (hb6k.cell (p := ⟨w4.heap.size, 0, none⟩) kx).trans x0
      have x1 := (hb6k.cell (p := ⟨w4.heap.size, 1, none⟩) kx).trans x1
      have x2 := (hb6k.cell (p := ⟨w4.heap.size, 2, none⟩) kx).trans x2
      have x3 := (hb6k.cell (p := ⟨w4.heap.size, 3, none⟩) kx).trans x3
      have x4 := (hb6k.cell (p := ⟨w4.heap.size, 4, none⟩) kx).trans x4
      have k0e := Nat.lt_of_lt_of_le k0d hb6k.size
      have k1e := Nat.lt_of_lt_of_le k1d hb6k.size
      have kxe := Nat.lt_of_lt_of_le kx hb6k.size
      clear S0d S1d T4 hp6 hb6 ka hb6k k0d k1d kx P4
      go_wp2_with fail
      generalize w6.alloc (.cells #[.int .i8 wd1, .int .i8 hi1, .slice (some ⟨yb, 0, none⟩) l1.length l1.length, .slice (some ⟨yk, 0, none⟩) p1.length p1.length, .slice (some ⟨yq, 0, none⟩) c1.length c1.length] 38) = w7 at a0 a1 a2 a3 a4 b0 b1 b2 b3 b4 x0 x1 x2 x3 x4 y0 y1 y2 y3 y4 kxe ky T6 S0e S1e P4e P6 k0e k1e ⊢
      refine (implSameMachine_any rb rk rq yb yk yq wd0 hi0 wd1 hi1 l0 l1 p0 p1 c0 c1 _ P4e.out.1 P6.out.1 P4e.out.2.1 P6.out.2.1 P4e.out.2.2.1 P6.out.2.2.1 P4e.out.2.2.2.1 P6.out.2.2.2.1 P4e.out.2.2.2.2.1 P6.out.2.2.2.2.1 P4e.out.2.2.2.2.2 P6.out.2.2.2.2.2 ml0 ml1 mp0 mp1 mc0 mc1 R HR.out).mono ?_
      rintro e w8 ⟨rfl, hb8⟩
      have T8 := kTrans T6 hb8
      have S0f := Lib.hid (S0e.out.below hb8)
      have S1f := Lib.hid (S1e.out.below hb8)
      have P4f := Lib.hid (P4e.out.below hb8)
      have P6f := Lib.hid (P6.out.below hb8)
      have a0 := (hb8.cell (p := ⟨w.heap.size, 0, none⟩) k0e).trans a0
      have a1 := (hb8.cell (p := ⟨w.heap.size, 1, none⟩) k0e).trans a1
      have a2 := (hb8.cell (p := ⟨w.heap.size, 2, none⟩) k0e).trans a2
      have a3 := (hb8.cell (p := ⟨w.heap.size, 3, none⟩) k0e).trans a3
      have a4 := (hb8.cell (p := ⟨w.heap.size, 4, none⟩) k0e).trans a4
      have b0 := (hb8.cell (p := ⟨w.heap.size + 1, 0, none⟩) k1e).trans b0
      have b1 := (hb8.cell (p := ⟨w.heap.size + 1, 1, none⟩) k1e).trans b1
      have b2 := (hb8.cell (p := ⟨w.heap.size + 1, 2, none⟩) k1e).trans b2
      have b3 := (hb8.cell (p := ⟨w.heap.size + 1, 3, none⟩) k1e).trans b3
      have b4 := (hb8.cell (p := ⟨w.heap.size + 1, 4, none⟩) k1e).trans b4
      have x0 := (hb8.cell (p := ⟨w4.heap.size, 0, none⟩) kxe).trans x0
      have x1 := (hb8.cell (p := ⟨w4.heap.size, 1, none⟩) kxe).trans x1
      have x2 := (hb8.cell (p := ⟨w4.heap.size, 2, none⟩) kxe).trans x2
      have x3 := (hb8.cell (p := ⟨w4.heap.size, 3, none⟩) kxe).trans x3
      have x4 := (hb8.cell (p := ⟨w4.heap.size, 4, none⟩) kxe).trans x4
      have y0 := (hb8.cell (p := ⟨w6.heap.size, 0, none⟩) ky).trans y0
      have y1 := (hb8.cell (p := ⟨w6.heap.size, 1, none⟩) ky).trans y1
      have y2 := (hb8.cell (p := ⟨w6.heap.size, 2, none⟩) ky).trans y2
      have y3 := (hb8.cell (p := ⟨w6.heap.size, 3, none⟩) ky).trans y3
      have y4 := (hb8.cell (p := ⟨w6.heap.size, 4, none⟩) ky).trans y4
      have k0f := Nat.lt_of_lt_of_le k0e hb8.size
      have k1f := Nat.lt_of_lt_of_le k1e hb8.size
      have kxf := Nat.lt_of_lt_of_le kxe hb8.size
      have kyf := Nat.lt_of_lt_of_le ky hb8.size
      clear S0e S1e T6 hb8 k0e k1e kxe ky P4e P6
      go_wp2_with fail
      go_region_held3 (fun w' => w'.cell? ⟨w.heap.size, 0, none⟩ = some (.int .i8 wd0) ∧ w'.cell? ⟨w.heap.size, 1, none⟩ = some (.int .i8 hi0) ∧ w'.cell? ⟨w.heap.size, 2, none⟩ = some (s0) ∧ w'.cell? ⟨w.heap.size, 3, none⟩ = some (t0) ∧ w'.cell? ⟨w.heap.size, 4, none⟩ = some (u0) ∧ w'.cell? ⟨w4.heap.size, 0, none⟩ = some (.int .i8 wd0) ∧ w'.cell? ⟨w4.heap.size, 1, none⟩ = some (.int .i8 hi0) ∧ w'.cell? ⟨w4.heap.size, 2, none⟩ = some (.slice (some ⟨rb, 0, none⟩) l0.length l0.length) ∧ w'.cell? ⟨w4.heap.size, 3, none⟩ = some (.slice (some ⟨rk, 0, none⟩) p0.length p0.length) ∧ w'.cell? ⟨w4.heap.size, 4, none⟩ = some (.slice (some ⟨rq, 0, none⟩) c0.length c0.length) ∧ w'.cell? ⟨w.heap.size + 1, 0, none⟩ = some (.int .i8 wd1) ∧ w'.cell? ⟨w.heap.size + 1, 1, none⟩ = some (.int .i8 hi1) ∧ w'.cell? ⟨w.heap.size + 1, 2, none⟩ = some (s1) ∧ w'.cell? ⟨w.heap.size + 1, 3, none⟩ = some (t1) ∧ w'.cell? ⟨w.heap.size + 1, 4, none⟩ = some (u1) ∧ w'.cell? ⟨w6.heap.size, 0, none⟩ = some (.int .i8 wd1) ∧ w'.cell? ⟨w6.heap.size, 1, none⟩ = some (.int .i8 hi1) ∧ w'.cell? ⟨w6.heap.size, 2, none⟩ = some (.slice (some ⟨yb, 0, none⟩) l1.length l1.length) ∧ w'.cell? ⟨w6.heap.size, 3, none⟩ = some (.slice (some ⟨yk, 0, none⟩) p1.length p1.length) ∧ w'.cell? ⟨w6.heap.size, 4, none⟩ = some (.slice (some ⟨yq, 0, none⟩) c1.length c1.length)) (go_keep)
        (first
        | (go_at_call 10
           refine (eqM wd0 hi0 _ _ _ _ _ _ l0 p0 c0 _ (by exact P4f.out.below (kTrans (Below.drew (Below.refl _ _)) hbq)) hpq al0 ap0 ac0 bw0 bh0 ml0 mp0 mc0).mono ?_
           rintro e w10 ⟨rfl, hbr⟩
           have a0 := (hbr.cell (p := ⟨w.heap.size, 0, none⟩) (Nat.lt_of_lt_of_le k0f hbq.size)).trans a0
           have a1 := (hbr.cell (p := ⟨w.heap.size, 1, none⟩) (Nat.lt_of_lt_of_le k0f hbq.size)).trans a1
           have a2 := (hbr.cell (p := ⟨w.heap.size, 2, none⟩) (Nat.lt_of_lt_of_le k0f hbq.size)).trans a2
           have a3 := (hbr.cell (p := ⟨w.heap.size, 3, none⟩) (Nat.lt_of_lt_of_le k0f hbq.size)).trans a3
           have a4 := (hbr.cell (p := ⟨w.heap.size, 4, none⟩) (Nat.lt_of_lt_of_le k0f hbq.size)).trans a4
           have x0 := (hbr.cell (p := ⟨w4.heap.size, 0, none⟩) (Nat.lt_of_lt_of_le kxf hbq.size)).trans x0
           have x1 := (hbr.cell (p := ⟨w4.heap.size, 1, none⟩) (Nat.lt_of_lt_of_le kxf hbq.size)).trans x1
           have x2 := (hbr.cell (p := ⟨w4.heap.size, 2, none⟩) (Nat.lt_of_lt_of_le kxf hbq.size)).trans x2
           have x3 := (hbr.cell (p := ⟨w4.heap.size, 3, none⟩) (Nat.lt_of_lt_of_le kxf hbq.size)).trans x3
           have x4 := (hbr.cell (p := ⟨w4.heap.size, 4, none⟩) (Nat.lt_of_lt_of_le kxf hbq.size)).trans x4
           have b0 := (hbr.cell (p := ⟨w.heap.size + 1, 0, none⟩) (Nat.lt_of_lt_of_le k1f hbq.size)).trans b0
           have b1 := (hbr.cell (p := ⟨w.heap.size + 1, 1, none⟩) (Nat.lt_of_lt_of_le k1f hbq.size)).trans b1
           have b2 := (hbr.cell (p := ⟨w.heap.size + 1, 2, none⟩) (Nat.lt_of_lt_of_le k1f hbq.size)).trans b2
           have b3 := (hbr.cell (p := ⟨w.heap.size + 1, 3, none⟩) (Nat.lt_of_lt_of_le k1f hbq.size)).trans b3
           have b4 := (hbr.cell (p := ⟨w.heap.size + 1, 4, none⟩) (Nat.lt_of_lt_of_le k1f hbq.size)).trans b4
           have y0 := (hbr.cell (p := ⟨w6.heap.size, 0, none⟩) (Nat.lt_of_lt_of_le kyf hbq.size)).trans y0
           have y1 := (hbr.cell (p := ⟨w6.heap.size, 1, none⟩) (Nat.lt_of_lt_of_le kyf hbq.size)).trans y1
           have y2 := (hbr.cell (p := ⟨w6.heap.size, 2, none⟩) (Nat.lt_of_lt_of_le kyf hbq.size)).trans y2
           have y3 := (hbr.cell (p := ⟨w6.heap.size, 3, none⟩) (Nat.lt_of_lt_of_le kyf hbq.size)).trans y3
           have y4 := (hbr.cell (p := ⟨w6.heap.size, 4, none⟩) (Nat.lt_of_lt_of_le kyf hbq.size)).trans y4)
        | (go_at_call 8
           refine (toM wd0 hi0 s0 t0 u0 l0 p0 c0 _ (S0f.out.below (Below.drew (Below.refl _ _))) ml0 mp0 mc0).mono ?_
           rintro e w9 ⟨zb, zk, zq, rfl, hpq, hbq⟩
           have a0 := (hbq.cell (p := ⟨w.heap.size, 0, none⟩) k0f).trans a0
           have a1 := (hbq.cell (p := ⟨w.heap.size, 1, none⟩) k0f).trans a1
           have a2 := (hbq.cell (p := ⟨w.heap.size, 2, none⟩) k0f).trans a2
           have a3 := (hbq.cell (p := ⟨w.heap.size, 3, none⟩) k0f).trans a3
           have a4 := (hbq.cell (p := ⟨w.heap.size, 4, none⟩) k0f).trans a4
           have x0 := (hbq.cell (p := ⟨w4.heap.size, 0, none⟩) kxf).trans x0
           have x1 := (hbq.cell (p := ⟨w4.heap.size, 1, none⟩) kxf).trans x1
           have x2 := (hbq.cell (p := ⟨w4.heap.size, 2, none⟩) kxf).trans x2
           have x3 := (hbq.cell (p := ⟨w4.heap.size, 3, none⟩) kxf).trans x3
           have x4 := (hbq.cell (p := ⟨w4.heap.size, 4, none⟩) kxf).trans x4
           have b0 := (hbq.cell (p := ⟨w.heap.size + 1, 0, none⟩) k1f).trans b0
           have b1 := (hbq.cell (p := ⟨w.heap.size + 1, 1, none⟩) k1f).trans b1
           have b2 := (hbq.cell (p := ⟨w.heap.size + 1, 2, none⟩) k1f).trans b2
           have b3 := (hbq.cell (p := ⟨w.heap.size + 1, 3, none⟩) k1f).trans b3
           have b4 := (hbq.cell (p := ⟨w.heap.size + 1, 4, none⟩) k1f).trans b4
           have y0 := (hbq.cell (p := ⟨w6.heap.size, 0, none⟩) kyf).trans y0
           have y1 := (hbq.cell (p := ⟨w6.heap.size, 1, none⟩) kyf).trans y1
           have y2 := (hbq.cell (p := ⟨w6.heap.size, 2, none⟩) kyf).trans y2
           have y3 := (hbq.cell (p := ⟨w6.heap.size, 3, none⟩) kyf).trans y3
           have y4 := (hbq.cell (p := ⟨w6.heap.size, 4, none⟩) kyf).trans y4))
      have hqr : Below w8.heap.size w8 w10 := kTrans (kTrans (Below.drew (Below.refl _ _)) hbq) hbr
      have T10 := kTrans T8 hqr
      have S1g := Lib.hid (S1f.out.below hqr)
      have P6g := Lib.hid (P6f.out.below hqr)
      have k1g := Nat.lt_of_lt_of_le k1f hqr.size
      have kyg := Nat.lt_of_lt_of_le kyf hqr.size
      clear S0f S1f T8 hbq hbr hqr P4f P6f k0f k1f kxf kyf hpq a0 a1 a2 a3 a4 x0 x1 x2 x3 x4
      go_wp2_with fail
      go_region_held3 (fun w' => w'.cell? ⟨w.heap.size + 1, 0, none⟩ = some (.int .i8 wd1) ∧ w'.cell? ⟨w.heap.size + 1, 1, none⟩ = some (.int .i8 hi1) ∧ w'.cell? ⟨w.heap.size + 1, 2, none⟩ = some (s1) ∧ w'.cell? ⟨w.heap.size + 1, 3, none⟩ = some (t1) ∧ w'.cell? ⟨w.heap.size + 1, 4, none⟩ = some (u1) ∧ w'.cell? ⟨w6.heap.size, 0, none⟩ = some (.int .i8 wd1) ∧ w'.cell? ⟨w6.heap.size, 1, none⟩ = some (.int .i8 hi1) ∧ w'.cell? ⟨w6.heap.size, 2, none⟩ = some (.slice (some ⟨yb, 0, none⟩) l1.length l1.length) ∧ w'.cell? ⟨w6.heap.size, 3, none⟩ = some (.slice (some ⟨yk, 0, none⟩) p1.length p1.length) ∧ w'.cell? ⟨w6.heap.size, 4, none⟩ = some (.slice (some ⟨yq, 0, none⟩) c1.length c1.length)) (go_keep)
        (first
        | (go_at_call 10
           refine (eqM wd1 hi1 _ _ _ _ _ _ l1 p1 c1 _ (by exact P6g.out.below (kTrans (Below.drew (Below.refl _ _)) hbq)) hpq al1 ap1 ac1 bw1 bh1 ml1 mp1 mc1).mono ?_
           rintro e w12 ⟨rfl, hbr⟩
           have b0 := (hbr.cell (p := ⟨w.heap.size + 1, 0, none⟩) (Nat.lt_of_lt_of_le k1g hbq.size)).trans b0
           have b1 := (hbr.cell (p := ⟨w.heap.size + 1, 1, none⟩) (Nat.lt_of_lt_of_le k1g hbq.size)).trans b1
           have b2 := (hbr.cell (p := ⟨w.heap.size + 1, 2, none⟩) (Nat.lt_of_lt_of_le k1g hbq.size)).trans b2
           have b3 := (hbr.cell (p := ⟨w.heap.size + 1, 3, none⟩) (Nat.lt_of_lt_of_le k1g hbq.size)).trans b3
           have b4 := (hbr.cell (p := ⟨w.heap.size + 1, 4, none⟩) (Nat.lt_of_lt_of_le k1g hbq.size)).trans b4
           have y0 := (hbr.cell (p := ⟨w6.heap.size, 0, none⟩) (Nat.lt_of_lt_of_le kyg hbq.size)).trans y0
           have y1 := (hbr.cell (p := ⟨w6.heap.size, 1, none⟩) (Nat.lt_of_lt_of_le kyg hbq.size)).trans y1
           have y2 := (hbr.cell (p := ⟨w6.heap.size, 2, none⟩) (Nat.lt_of_lt_of_le kyg hbq.size)).trans y2
           have y3 := (hbr.cell (p := ⟨w6.heap.size, 3, none⟩) (Nat.lt_of_lt_of_le kyg hbq.size)).trans y3
           have y4 := (hbr.cell (p := ⟨w6.heap.size, 4, none⟩) (Nat.lt_of_lt_of_le kyg hbq.size)).trans y4)
        | (go_at_call 8
           refine (toM wd1 hi1 s1 t1 u1 l1 p1 c1 _ (S1g.out.below (Below.drew (Below.refl _ _))) ml1 mp1 mc1).mono ?_
           rintro e w11 ⟨zb, zk, zq, rfl, hpq, hbq⟩
           have b0 := (hbq.cell (p := ⟨w.heap.size + 1, 0, none⟩) k1g).trans b0
           have b1 := (hbq.cell (p := ⟨w.heap.size + 1, 1, none⟩) k1g).trans b1
           have b2 := (hbq.cell (p := ⟨w.heap.size + 1, 2, none⟩) k1g).trans b2
           have b3 := (hbq.cell (p := ⟨w.heap.size + 1, 3, none⟩) k1g).trans b3
           have b4 := (hbq.cell (p := ⟨w.heap.size + 1, 4, none⟩) k1g).trans b4
           have y0 := (hbq.cell (p := ⟨w6.heap.size, 0, none⟩) kyg).trans y0
           have y1 := (hbq.cell (p := ⟨w6.heap.size, 1, none⟩) kyg).trans y1
           have y2 := (hbq.cell (p := ⟨w6.heap.size, 2, none⟩) kyg).trans y2
           have y3 := (hbq.cell (p := ⟨w6.heap.size, 3, none⟩) kyg).trans y3
           have y4 := (hbq.cell (p := ⟨w6.heap.size, 4, none⟩) kyg).trans y4))
      have hqr : Below w10.heap.size w10 w12 := kTrans (kTrans (Below.drew (Below.refl _ _)) hbq) hbr
      have T12 := kTrans T10 hqr
      clear S1g T10 hbq hbr hqr P6g hpq
      go_wp2
      go_ret
      exact ⟨rfl, T12⟩

set_option maxRecDepth 100000 in
theorem lifted (os : Os) (started : os.Started) (H : Type) (enc : TypeId × Value → H) :
    ReturnsInHanded {} Try.checked os 4 .any (Rows.fnExactSameMachineSpec.pre6 enc Try.prog Try.f4 Rows.fnExactSameMachineRow.domain false) (Rows.fnExactSameMachineSpec.post enc Try.prog Try.f4 false true false false) := by
  refine returnsInHanded_of_change (C := Try.checked) own started (by kernel_rfl) Try.func4
    (ChangeSpec.witness6 (enc := enc) (C := Try.checked) false ⟨#[], #[.agg #[.int .i8 0, .int .i8 0, .slice none 0 0, .slice none 0 0, .slice none 0 0], .agg #[.int .i8 0, .int .i8 0, .slice none 0 0, .slice none 0 0, .slice none 0 0]], []⟩ 8 (by kernel_rfl) (by kernel_rfl) (by kernel_rfl) (by kernel_rfl)) ?_
  intro W base args ds gs before hval0 hW hcnd _
  have hval : ∀ (j : Nat) t v, Try.f4.params[j]? = some t → args[j]? = some v → Value.okWide Try.prog W .any base t v := hval0
  have hW' := hW
  obtain ⟨p, q, hA0, hV, rfl, hfz, hnd⟩ := hW
  have hA : DataW.TrodAll enc Try.prog W 0 (fun _ => true) true Try.f4.params.toList args.toList ds p := hA0
  rw [Try.params4] at hA hval
  have r_ := hA
  obtain ⟨v0, vs0, d0, ds0, pp0, qq0, hargs0, hds0, _, h0, r_⟩ := trodAll_cons r_
  obtain ⟨v1, vs1, d1, ds1, pp1, qq1, hargs1, hds1, _, h1, r_⟩ := trodAll_cons r_
  obtain ⟨hv_, hd_, _⟩ := trodAll_nil r_
  subst hv_ hd_
  subst hargs1 hds1
  obtain rfl : args = #[v0, v1] := by cases args; simp_all
  subst hds0
  obtain ⟨f0_, f1_, f2_, g0_, g1_, g2_, e1_, e2_, e3_, e4_, e5_, e6_, e7_, e8_, e9_⟩ := machine_struct
  obtain ⟨wd0, hi0, s0, t0, u0, l0, lo0, lc0, rfl, bw0, bh0, sl0, al0, le0, sp0, ap0, lp0, sc0, ac0, ln0⟩ := open_machine e1_.1 e1_.2 e2_ e3_ e4_ e5_ e6_ e7_ e8_ e9_ piece_cells piece_flat Po_cells Po_flat Cl_cells Cl_flat (hval 0 29 v0 rfl rfl) h0
  obtain ⟨f0_, f1_, f2_, g0_, g1_, g2_, e1_, e2_, e3_, e4_, e5_, e6_, e7_, e8_, e9_⟩ := machine_struct
  obtain ⟨wd1, hi1, s1, t1, u1, l1, lo1, lc1, rfl, bw1, bh1, sl1, al1, le1, sp1, ap1, lp1, sc1, ac1, ln1⟩ := open_machine e1_.1 e1_.2 e2_ e3_ e4_ e5_ e6_ e7_ e8_ e9_ piece_cells piece_flat Po_cells Po_flat Cl_cells Cl_flat (hval 1 29 v1 rfl rfl) h1
  refine (walk (w := W) wd0 hi0 s0 t0 u0 l0 lo0 lc0 bw0 bh0 sl0 al0 le0 sp0 ap0 lp0 sc0 ac0 ln0 wd1 hi1 s1 t1 u1 l1 lo1 lc1 bw1 bh1 sl1 al1 le1 sp1 ap1 lp1 sc1 ac1 ln1).mono fun e W' ⟨he, hg⟩ => ?_
  subst he
  exact ⟨_, rfl, law_post kids full Try.underlying4 (by decide) rfl rfl rfl hW' hg⟩

theorem over : Rows.fnExactSameMachineRow.holds Try.pinned (OpenSpec.ofChange Rows.fnExactSameMachineSpec) :=
  OpenClaim.holds_of_wide 4 Try.f4 rfl rfl rfl rfl rfl rfl rfl ⟨rfl, rfl, rfl, rfl, rfl⟩ rfl rfl rfl rfl rfl (by kernel_rfl) Try.func4 (by kernel_rfl)
    (of_decide_eq_true (by kernel_rfl)) (by unfold Func.isWrapper; first | (rw [if_pos (by decide +kernel)]; kernel_rfl) | (rw [if_neg (by decide +kernel)]; exact ⟨rfl, rfl⟩))
    (fun os started H enc _ => lifted os started H enc)

/-- The statement. -/
theorem proved : Rows.FnExactSameMachineSaid :=
  over
#print axioms proved
end Go.Proofs.Ytmabcfepkcpcoaa.SameMachine
