/- 'ValidMachine' answers as its model at every argument. No conditions. -/
import Derived.Test.YtmabcfepkcpcoaaDo
import Derived.Test.YtmabcfepkcpcoaaMs
import Derived.Test.YtmabcfepkcpcoaaG1
import Derived.Deep.RegionHeld3
namespace Go.Proofs.Ytmabcfepkcpcoaa.ValidMachine
open Go.ChangeShapes Go.WideShapes Go.ChangeAt Go.RowKit Go.Deep
set_option linter.unusedVariables false

def MS (w : World) (v v1 v2 : Value) (l : List Pc) (p : List Po) (c : List Cl) : Prop := Sl w l v ∧ SlPo w p v1 ∧ SlCl w c v2
theorem MS.below {w w' : World} {v v1 v2 : Value} {l : List Pc} {p : List Po} {c : List Cl} (h : MS w v v1 v2 l p c) (hb : Below w.heap.size w w') : MS w' v v1 v2 l p c := ⟨mSl h.1 hb, h.2.1.below hb, h.2.2.below hb⟩
def PK (w : World) (b k q : Nat) (l : List Pc) (p : List Po) (c : List Cl) : Prop := PcsAt w b 0 l ∧ PosAt w k 0 p ∧ ClsAt w q 0 c ∧ b < w.heap.size ∧ k < w.heap.size ∧ q < w.heap.size
theorem PK.below {w w' : World} {b k q : Nat} {l : List Pc} {p : List Po} {c : List Cl} (h : PK w b k q l p c) (hb : Below w.heap.size w w') : PK w' b k q l p c :=
  ⟨h.1.below hb h.2.2.2.1, h.2.1.below hb h.2.2.2.2.1, h.2.2.1.below hb h.2.2.2.2.2, Nat.lt_of_lt_of_le h.2.2.2.1 hb.size, Nat.lt_of_lt_of_le h.2.2.2.2.1 hb.size, Nat.lt_of_lt_of_le h.2.2.2.2.2 hb.size⟩
theorem toM (wd hi : Int) (v v1 v2 : Value) (l : List Pc) (p : List Po) (c : List Cl) (w : World) (h : MS w v v1 v2 l p c) (m0 : l.length ≤ 1048576) (m1 : p.length ≤ 1048576) (m2 : c.length ≤ 1048576) :
    Calls Try.prog 8 #[.agg #[.int .i8 wd, .int .i8 hi, v, v1, v2]] w fun e w' => ∃ b k q, e = .returned (.agg #[.int .i8 wd, .int .i8 hi, .slice (some ⟨b, 0, none⟩) l.length l.length, .slice (some ⟨k, 0, none⟩) p.length p.length, .slice (some ⟨q, 0, none⟩) c.length c.length]) ∧ PK w' b k q l p c ∧ Below w.heap.size w w' :=
  (toMachine_any wd hi v v1 v2 l p c w h.1 h.2.1 h.2.2 m0 m1 m2).mono fun e w' ⟨b, k, q, he, p0, p1, p2, z0, z1, z2, _, _, _, hb⟩ => ⟨b, k, q, he, ⟨p0, p1, p2, z0, z1, z2⟩, hb⟩
theorem eqM (wd hi : Int) (b k q b' k' q' : Nat) (l : List Pc) (p : List Po) (c : List Cl) (w : World) (h : PK w b k q l p c) (h' : PK w b' k' q' l p c) (h8 : All8 l) (h81 : PosWf p) (h82 : ClsWf c) (bw : i8 wd) (bh : i8 hi) (m0 : l.length ≤ 1048576) (m1 : p.length ≤ 1048576) (m2 : c.length ≤ 1048576) :
    Calls Try.prog 10 #[.agg #[.int .i8 wd, .int .i8 hi, .slice (some ⟨b, 0, none⟩) l.length l.length, .slice (some ⟨k, 0, none⟩) p.length p.length, .slice (some ⟨q, 0, none⟩) c.length c.length], .agg #[.int .i8 wd, .int .i8 hi, .slice (some ⟨b', 0, none⟩) l.length l.length, .slice (some ⟨k', 0, none⟩) p.length p.length, .slice (some ⟨q', 0, none⟩) c.length c.length]] w fun e w' => e = .returned (.bool true) ∧ Below w.heap.size w w' :=
  eqMachine_any wd hi _ _ _ _ _ _ l p c w (Sl.mk b 0 _ h.1 h.2.2.2.1 (Nat.le_refl _)) (SlPo.mk k 0 _ h.2.1 h.2.2.2.2.1 (Nat.le_refl _)) (SlCl.mk q 0 _ h.2.2.1 h.2.2.2.2.2 (Nat.le_refl _)) (Sl.mk b' 0 _ h'.1 h'.2.2.2.1 (Nat.le_refl _)) (SlPo.mk k' 0 _ h'.2.1 h'.2.2.2.2.1 (Nat.le_refl _)) (SlCl.mk q' 0 _ h'.2.2.1 h'.2.2.2.2.2 (Nat.le_refl _)) h8 h81 h82 bw bh m0 m1 m2


set_option maxRecDepth 100000 in
set_option maxHeartbeats 16000000 in
theorem walk {w : World} (wd0 hi0 : Int) (s0 t0 u0 : Value) (l0 : List Pc) (p0 : List Po) (c0 : List Cl) (bw0 : i8 wd0) (bh0 : i8 hi0) (sl0 : Sl w l0 s0) (al0 : All8 l0) (le0 : l0.length ≤ 9223372036854775807) (sp0 : SlPo w p0 t0) (ap0 : PosWf p0) (lp0 : p0.length ≤ maxLen) (sc0 : SlCl w c0 u0) (ac0 : ClsWf c0) (lc0 : c0.length ≤ maxLen) :
    Calls Try.prog 3 #[.agg #[.int .i8 wd0, .int .i8 hi0, s0, t0, u0]] w fun e w' => e = .returned (.bool true) ∧ Below w.heap.size w w' := by
  unfold maxLen at lp0 lc0
  have hk : Below w.heap.size w (w.alloc (.cells #[.int .i8 wd0, .int .i8 hi0, s0, t0, u0] 29)) := by repeat (first | with_reducible exact Below.refl _ _ | (with_reducible refine kSet ?_ ?hB _; case hB => (simp; try omega)) | with_reducible refine kAlloc ?_ _ | with_reducible refine Below.drew ?_ | with_reducible refine kDrewN ?_ _ | with_reducible refine kTrans ?_ (by assumption))
  have S0 := Lib.hid (MS.below ⟨sl0, sp0, sc0⟩ hk)
  have bx0 := McAt.box w wd0 hi0 s0 t0 u0 29
  clear sl0 sp0 sc0 hk
  by_cases hlt0 : 1048576 - (l0.length : Int) - (p0.length : Int) - (c0.length : Int) < 0
  · go_enter Try.func3, Try.ntmps3
    go_wp2_with fail
    refine (szMachine_any wd0 hi0 s0 t0 u0 l0 p0 c0 _ S0.out.1 S0.out.2.1 S0.out.2.2 1048576 le0 lp0 lc0 (by omega) (by omega)).mono ?_
    rw [if_pos (by omega)]
    rintro e w1 ⟨rfl, hb1⟩
    go_wp2
    go_ret
    exact ⟨rfl, by repeat (first | with_reducible exact Below.refl _ _ | (with_reducible refine kSet ?_ ?hB _; case hB => (simp; try omega)) | with_reducible refine kAlloc ?_ _ | with_reducible refine Below.drew ?_ | with_reducible refine kDrewN ?_ _ | with_reducible refine kTrans ?_ (by assumption))⟩
  · have h0' : ¬ 1048576 - (l0.length : Int) - (p0.length : Int) < (c0.length : Int) := by omega
    have ml0 : l0.length ≤ 1048576 := by omega
    have mp0 : p0.length ≤ 1048576 := by omega
    have mc0 : c0.length ≤ 1048576 := by omega
    obtain ⟨R, hR⟩ : ∃ R, R = machOk wd0 hi0 l0 p0 c0 := ⟨_, rfl⟩
    have HR := Lib.hid hR
    have hRR : (R != R) = false := by simp
    clear hR
    go_enter Try.func3, Try.ntmps3
    go_wp2_with fail
    refine (szMachine_any wd0 hi0 s0 t0 u0 l0 p0 c0 _ S0.out.1 S0.out.2.1 S0.out.2.2 1048576 le0 lp0 lc0 (by omega) (by omega)).mono ?_
    rw [if_neg (by omega)]
    rintro e w2 ⟨rfl, hb2⟩
    have S0b := Lib.hid (S0.out.below hb2)
    have T2 : Below w.heap.size w w2 := by repeat (first | with_reducible exact Below.refl _ _ | (with_reducible refine kSet ?_ ?hB _; case hB => (simp; try omega)) | with_reducible refine kAlloc ?_ _ | with_reducible refine Below.drew ?_ | with_reducible refine kDrewN ?_ _ | with_reducible refine kTrans ?_ (by assumption))
    have bx0b := bx0.below hb2 bx0.lt
    have k0 := bx0b.lt
    obtain ⟨a0, a1, a2, a3, a4⟩ := bx0b
    clear S0 bx0 hb2
    go_wp2_with fail
    refine (toM wd0 hi0 s0 t0 u0 l0 p0 c0 _ S0b.out ml0 mp0 mc0).mono ?_
    rintro e wa ⟨xb, xk, xq, rfl, hpa, hba⟩
    have Pa := Lib.hid hpa
    clear hpa
    have a0 := (hba.cell (p := ⟨w.heap.size, 0, none⟩) k0).trans a0
    have a1 := (hba.cell (p := ⟨w.heap.size, 1, none⟩) k0).trans a1
    have a2 := (hba.cell (p := ⟨w.heap.size, 2, none⟩) k0).trans a2
    have a3 := (hba.cell (p := ⟨w.heap.size, 3, none⟩) k0).trans a3
    have a4 := (hba.cell (p := ⟨w.heap.size, 4, none⟩) k0).trans a4
    have k0a := Nat.lt_of_lt_of_le k0 hba.size
    have S0c' := Lib.hid (S0b.out.below hba)
    have T2a := kTrans T2 hba
    clear S0b T2 hba k0
    go_wp2_with fail
    refine (specValidMachine_any xb xk xq wd0 hi0 l0 p0 c0 _ Pa.out.1 Pa.out.2.1 Pa.out.2.2.1 Pa.out.2.2.2.1 Pa.out.2.2.2.2.1 Pa.out.2.2.2.2.2 al0 ap0 bw0 bh0 ml0 mp0 mc0 R HR.out).mono ?_
    rintro e wc ⟨rfl, hbc⟩
    have a0 := (hbc.cell (p := ⟨w.heap.size, 0, none⟩) k0a).trans a0
    have a1 := (hbc.cell (p := ⟨w.heap.size, 1, none⟩) k0a).trans a1
    have a2 := (hbc.cell (p := ⟨w.heap.size, 2, none⟩) k0a).trans a2
    have a3 := (hbc.cell (p := ⟨w.heap.size, 3, none⟩) k0a).trans a3
    have a4 := (hbc.cell (p := ⟨w.heap.size, 4, none⟩) k0a).trans a4
    have T3 := kTrans T2a hbc
    have S0c := Lib.hid (S0c'.out.below hbc)
    have k0c := Nat.lt_of_lt_of_le k0a hbc.size
    clear S0c' T2a Pa hbc k0a
    go_wp2_with fail
    refine (toM wd0 hi0 s0 t0 u0 l0 p0 c0 _ S0c.out ml0 mp0 mc0).mono ?_
    rintro e w4 ⟨rb, rk, rq, rfl, hp4, hb4⟩
    have ka : Below w4.heap.size w4 (w4.alloc (.cells #[.int .i8 wd0, .int .i8 hi0, .slice (some ⟨rb, 0, none⟩) l0.length l0.length, .slice (some ⟨rk, 0, none⟩) p0.length p0.length, .slice (some ⟨rq, 0, none⟩) c0.length c0.length] 38)) := by repeat (first | with_reducible exact Below.refl _ _ | (with_reducible refine kSet ?_ ?hB _; case hB => (simp; try omega)) | with_reducible refine kAlloc ?_ _ | with_reducible refine Below.drew ?_ | with_reducible refine kDrewN ?_ _ | with_reducible refine kTrans ?_ (by assumption))
    obtain ⟨x0, x1, x2, x3, x4⟩ := McAt.box w4 wd0 hi0 (.slice (some ⟨rb, 0, none⟩) l0.length l0.length) (.slice (some ⟨rk, 0, none⟩) p0.length p0.length) (.slice (some ⟨rq, 0, none⟩) c0.length c0.length) 38
    have kx : w4.heap.size < (w4.alloc (.cells #[.int .i8 wd0, .int .i8 hi0, .slice (some ⟨rb, 0, none⟩) l0.length l0.length, .slice (some ⟨rk, 0, none⟩) p0.length p0.length, .slice (some ⟨rq, 0, none⟩) c0.length c0.length] 38)).heap.size := by simp
    have T4 := kTrans (kTrans T3 hb4) ka
    have hb4k := kTrans hb4 ka
    have S0d := Lib.hid (S0c.out.below hb4k)
    have P4 := Lib.hid (hp4.below ka)
    have a0 := (hb4k.cell (p := ⟨w.heap.size, 0, none⟩) k0c).trans a0
    have a1 := (hb4k.cell (p := ⟨w.heap.size, 1, none⟩) k0c).trans a1
    have a2 := (hb4k.cell (p := ⟨w.heap.size, 2, none⟩) k0c).trans a2
    have a3 := (hb4k.cell (p := ⟨w.heap.size, 3, none⟩) k0c).trans a3
    have a4 := (hb4k.cell (p := ⟨w.heap.size, 4, none⟩) k0c).trans a4
    have k0d := Nat.lt_of_lt_of_le k0c hb4k.size
    clear S0c T3 hp4 hb4 ka hb4k k0c
    go_wp2_with fail
    generalize w4.alloc (.cells #[.int .i8 wd0, .int .i8 hi0, .slice (some ⟨rb, 0, none⟩) l0.length l0.length, .slice (some ⟨rk, 0, none⟩) p0.length p0.length, .slice (some ⟨rq, 0, none⟩) c0.length c0.length] 38) = w5 at a0 a1 a2 a3 a4 x0 x1 x2 x3 x4 kx T4 S0d P4 k0d ⊢
    refine (implValidMachine_any rb rk rq wd0 hi0 l0 p0 c0 _ P4.out.1 P4.out.2.1 P4.out.2.2.1 P4.out.2.2.2.1 P4.out.2.2.2.2.1 P4.out.2.2.2.2.2 al0 ap0 ml0 mp0 mc0 R HR.out).mono ?_
    rintro e w8 ⟨rfl, hb8⟩
    have T8 := kTrans T4 hb8
    have S0f := Lib.hid (S0d.out.below hb8)
    have P4f := Lib.hid (P4.out.below hb8)
    have a0 := (hb8.cell (p := ⟨w.heap.size, 0, none⟩) k0d).trans a0
    have a1 := (hb8.cell (p := ⟨w.heap.size, 1, none⟩) k0d).trans a1
    have a2 := (hb8.cell (p := ⟨w.heap.size, 2, none⟩) k0d).trans a2
    have a3 := (hb8.cell (p := ⟨w.heap.size, 3, none⟩) k0d).trans a3
    have a4 := (hb8.cell (p := ⟨w.heap.size, 4, none⟩) k0d).trans a4
    have x0 := (hb8.cell (p := ⟨w4.heap.size, 0, none⟩) kx).trans x0
    have x1 := (hb8.cell (p := ⟨w4.heap.size, 1, none⟩) kx).trans x1
    have x2 := (hb8.cell (p := ⟨w4.heap.size, 2, none⟩) kx).trans x2
    have x3 := (hb8.cell (p := ⟨w4.heap.size, 3, none⟩) kx).trans x3
    have x4 := (hb8.cell (p := ⟨w4.heap.size, 4, none⟩) kx).trans x4
    have k0f := Nat.lt_of_lt_of_le k0d hb8.size
    have kxf := Nat.lt_of_lt_of_le kx hb8.size
    clear S0d T4 hb8 k0d kx P4
    go_wp2_with fail
    go_region_held3 (fun w' => w'.cell? ⟨w.heap.size, 0, none⟩ = some (.int .i8 wd0) ∧ w'.cell? ⟨w.heap.size, 1, none⟩ = some (.int .i8 hi0) ∧ w'.cell? ⟨w.heap.size, 2, none⟩ = some (s0) ∧ w'.cell? ⟨w.heap.size, 3, none⟩ = some (t0) ∧ w'.cell? ⟨w.heap.size, 4, none⟩ = some (u0) ∧ w'.cell? ⟨w4.heap.size, 0, none⟩ = some (.int .i8 wd0) ∧ w'.cell? ⟨w4.heap.size, 1, none⟩ = some (.int .i8 hi0) ∧ w'.cell? ⟨w4.heap.size, 2, none⟩ = some (.slice (some ⟨rb, 0, none⟩) l0.length l0.length) ∧ w'.cell? ⟨w4.heap.size, 3, none⟩ = some (.slice (some ⟨rk, 0, none⟩) p0.length p0.length) ∧ w'.cell? ⟨w4.heap.size, 4, none⟩ = some (.slice (some ⟨rq, 0, none⟩) c0.length c0.length)) (go_keep)
      (first
      | (go_at_call 10
         refine (eqM wd0 hi0 _ _ _ _ _ _ l0 p0 c0 _ (by exact P4f.out.below (kTrans (Below.drew (Below.refl _ _)) hbq)) hpq al0 ap0 ac0 bw0 bh0 ml0 mp0 mc0).mono ?_
         rintro e w10 ⟨rfl, hbr⟩
         have a0 := (hbr.cell (p := ⟨w.heap.size, 0, none⟩) (Nat.lt_of_lt_of_le k0f hbq.size)).trans a0
         have a1 := (hbr.cell (p := ⟨w.heap.size, 1, none⟩) (Nat.lt_of_lt_of_le k0f hbq.size)).trans a1
         have a2 := (hbr.cell (p := ⟨w.heap.size, 2, none⟩) (Nat.lt_of_lt_of_le k0f hbq.size)).trans a2
         have a3 := (hbr.cell (p := ⟨w.heap.size, 3, none⟩) (Nat.lt_of_lt_of_le k0f hbq.size)).trans a3
         have a4 := (hbr.cell (p := ⟨w.heap.size, 4, none⟩) (Nat.lt_of_lt_of_le k0f hbq.size)).trans a4
         have x0 := (hbr.cell (p := ⟨w4.heap.size, 0, none⟩) (Nat.lt_of_lt_of_le kxf hbq.size)).trans x0
         have x1 := (hbr.cell (p := ⟨w4.heap.size, 1, none⟩) (Nat.lt_of_lt_of_le kxf hbq.size)).trans x1
         have x2 := (hbr.cell (p := ⟨w4.heap.size, 2, none⟩) (Nat.lt_of_lt_of_le kxf hbq.size)).trans x2
         have x3 := (hbr.cell (p := ⟨w4.heap.size, 3, none⟩) (Nat.lt_of_lt_of_le kxf hbq.size)).trans x3
         have x4 := (hbr.cell (p := ⟨w4.heap.size, 4, none⟩) (Nat.lt_of_lt_of_le kxf hbq.size)).trans x4)
      | (go_at_call 8
         refine (toM wd0 hi0 s0 t0 u0 l0 p0 c0 _ (S0f.out.below (Below.drew (Below.refl _ _))) ml0 mp0 mc0).mono ?_
         rintro e w9 ⟨zb, zk, zq, rfl, hpq, hbq⟩
         have a0 := (hbq.cell (p := ⟨w.heap.size, 0, none⟩) k0f).trans a0
         have a1 := (hbq.cell (p := ⟨w.heap.size, 1, none⟩) k0f).trans a1
         have a2 := (hbq.cell (p := ⟨w.heap.size, 2, none⟩) k0f).trans a2
         have a3 := (hbq.cell (p := ⟨w.heap.size, 3, none⟩) k0f).trans a3
         have a4 := (hbq.cell (p := ⟨w.heap.size, 4, none⟩) k0f).trans a4
         have x0 := (hbq.cell (p := ⟨w4.heap.size, 0, none⟩) kxf).trans x0
         have x1 := (hbq.cell (p := ⟨w4.heap.size, 1, none⟩) kxf).trans x1
         have x2 := (hbq.cell (p := ⟨w4.heap.size, 2, none⟩) kxf).trans x2
         have x3 := (hbq.cell (p := ⟨w4.heap.size, 3, none⟩) kxf).trans x3
         have x4 := (hbq.cell (p := ⟨w4.heap.size, 4, none⟩) kxf).trans x4))
    have hqr : Below w8.heap.size w8 w10 := kTrans (kTrans (Below.drew (Below.refl _ _)) hbq) hbr
    have T10 := kTrans T8 hqr
    clear S0f T8 hbq hbr hqr P4f hpq
    go_wp2
    go_ret
    exact ⟨rfl, T10⟩

set_option maxRecDepth 100000 in
theorem lifted (os : Os) (started : os.Started) (H : Type) (enc : TypeId × Value → H) :
    ReturnsInHanded {} Try.checked os 3 .any (Rows.fnExactValidMachineSpec.pre6 enc Try.prog Try.f3 Rows.fnExactValidMachineRow.domain false) (Rows.fnExactValidMachineSpec.post enc Try.prog Try.f3 false true false false) := by
  refine returnsInHanded_of_change (C := Try.checked) own started (by kernel_rfl) Try.func3
    (ChangeSpec.witness6 (enc := enc) (C := Try.checked) false ⟨#[], #[.agg #[.int .i8 0, .int .i8 0, .slice none 0 0, .slice none 0 0, .slice none 0 0]], []⟩ 8 (by kernel_rfl) (by kernel_rfl) (by kernel_rfl) (by kernel_rfl)) ?_
  intro W base args ds gs before hval0 hW hcnd _
  have hval : ∀ (j : Nat) t v, Try.f3.params[j]? = some t → args[j]? = some v → Value.okWide Try.prog W .any base t v := hval0
  have hW' := hW
  obtain ⟨p, q, hA0, hV, rfl, hfz, hnd⟩ := hW
  have hA : DataW.TrodAll enc Try.prog W 0 (fun _ => true) true Try.f3.params.toList args.toList ds p := hA0
  rw [Try.params3] at hA hval
  have r_ := hA
  obtain ⟨v0, vs0, d0, ds0, pp0, qq0, hargs0, hds0, _, h0, r_⟩ := trodAll_cons r_
  obtain ⟨hv_, hd_, _⟩ := trodAll_nil r_
  subst hv_ hd_
  obtain rfl : args = #[v0] := by cases args; simp_all
  subst hds0
  obtain ⟨f0_, f1_, f2_, g0_, g1_, g2_, e1_, e2_, e3_, e4_, e5_, e6_, e7_, e8_, e9_⟩ := machine_struct
  obtain ⟨wd0, hi0, s0, t0, u0, l0, lo0, lc0, rfl, bw0, bh0, sl0, al0, le0, sp0, ap0, lp0, sc0, ac0, ln0⟩ := open_machine e1_.1 e1_.2 e2_ e3_ e4_ e5_ e6_ e7_ e8_ e9_ piece_cells piece_flat Po_cells Po_flat Cl_cells Cl_flat (hval 0 29 v0 rfl rfl) h0
  refine (walk (w := W) wd0 hi0 s0 t0 u0 l0 lo0 lc0 bw0 bh0 sl0 al0 le0 sp0 ap0 lp0 sc0 ac0 ln0).mono fun e W' ⟨he, hg⟩ => ?_
  subst he
  exact ⟨_, rfl, law_post kids full Try.underlying4 (by decide) rfl rfl rfl hW' hg⟩

theorem over : Rows.fnExactValidMachineRow.holds Try.pinned (OpenSpec.ofChange Rows.fnExactValidMachineSpec) :=
  OpenClaim.holds_of_wide 3 Try.f3 rfl rfl rfl rfl rfl rfl rfl ⟨rfl, rfl, rfl, rfl, rfl⟩ rfl rfl rfl rfl rfl (by kernel_rfl) Try.func3 (by kernel_rfl)
    (of_decide_eq_true (by kernel_rfl)) (by unfold Func.isWrapper; first | (rw [if_pos (by decide +kernel)]; kernel_rfl) | (rw [if_neg (by decide +kernel)]; exact ⟨rfl, rfl⟩))
    (fun os started H enc _ => lifted os started H enc)

/-- The statement. -/
theorem proved : Rows.FnExactValidMachineSaid :=
  over
#print axioms proved
end Go.Proofs.Ytmabcfepkcpcoaa.ValidMachine
