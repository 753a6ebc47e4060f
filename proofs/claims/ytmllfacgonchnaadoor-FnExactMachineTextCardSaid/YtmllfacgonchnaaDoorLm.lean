/- What the laws about machines want: packages of three slices. -/
import Derived.Test.YtmllfacgonchnaaDoorMo
import Derived.Test.YtmllfacgonchnaaDoorIl
namespace Go.Proofs.YtmllfacgonchnaaDoor
open Go.ChangeShapes Go.WideShapes Go.ChangeAt Go.RowKit Go.Joins Go.Deep
set_option linter.unusedVariables false

structure MSO (B : Nat) (w : World) (v t u : Value) (l : List Pc) (p : List Po) (c : List Cl) : Prop where
  a : SlO B w l v
  b : SlOPo B w p t
  c : SlOCl B w c u
theorem MSO.start {w : World} {v t u : Value} {l : List Pc} {p : List Po} {c : List Cl} (h : Sl w l v) (h1 : SlPo w p t) (h2 : SlCl w c u) : MSO w.heap.size w v t u l p c := ⟨SlO.start h, SlOPo.start h1, SlOCl.start h2⟩
theorem MSO.below {B : Nat} {w w' : World} {v t u : Value} {l : List Pc} {p : List Po} {c : List Cl} (h : MSO B w v t u l p c) (g : Below w.heap.size w w') : MSO B w' v t u l p c := ⟨h.a.below g, h.b.below g, h.c.below g⟩
theorem MSO.out {B lo hi : Nat} {w w' : World} {v t u : Value} {l : List Pc} {p : List Po} {c : List Cl} (h : MSO B w v t u l p c) (g : KeptOut lo hi w w') (ho : B ≤ lo) : MSO B w' v t u l p c := ⟨h.a.out g ho, h.b.out g ho, h.c.out g ho⟩
structure PK (w : World) (b k q : Nat) (l : List Pc) (p : List Po) (c : List Cl) : Prop where
  p0 : PcsAt w b 0 l
  p1 : PosAt w k 0 p
  p2 : ClsAt w q 0 c
  z0 : b < w.heap.size
  z1 : k < w.heap.size
  z2 : q < w.heap.size
theorem PK.below {w w' : World} {b k q : Nat} {l : List Pc} {p : List Po} {c : List Cl} (h : PK w b k q l p c) (g : Below w.heap.size w w') : PK w' b k q l p c :=
  ⟨h.p0.below g h.z0, h.p1.below g h.z1, h.p2.below g h.z2, Nat.lt_of_lt_of_le h.z0 g.size, Nat.lt_of_lt_of_le h.z1 g.size, Nat.lt_of_lt_of_le h.z2 g.size⟩
theorem OwnM.pk {lo hi b k q : Nat} {w : World} {l : List Pc} {p : List Po} {c : List Cl} (h : OwnM lo hi w b k q l p c) : PK w b k q l p c := ⟨h.p0, h.p1, h.p2, h.h0, h.h1, h.h2⟩
theorem toM_own {B : Nat} (wd hi : Int) (v t u : Value) (l : List Pc) (p : List Po) (c : List Cl) (w : World) (h : MSO B w v t u l p c) (m0 : l.length ≤ 1048576) (m1 : p.length ≤ 1048576) (m2 : c.length ≤ 1048576) :
    Calls Tryd.prog 34 #[.agg #[.int .i8 wd, .int .i8 hi, v, t, u]] w fun e w' => ∃ b k q, e = .returned (.agg #[.int .i8 wd, .int .i8 hi, .slice (some ⟨b, 0, none⟩) l.length l.length, .slice (some ⟨k, 0, none⟩) p.length p.length, .slice (some ⟨q, 0, none⟩) c.length c.length]) ∧ OwnM w.heap.size w'.heap.size w' b k q l p c ∧ Below w.heap.size w w' :=
  toMachine_own wd hi v t u l p c w h.a.sl h.b.sl h.c.sl m0 m1 m2
theorem szM {B : Nat} (wd hi : Int) (v t u : Value) (l : List Pc) (p : List Po) (c : List Cl) (w : World) (h : MSO B w v t u l p c) (left : Int) (e0 : l.length ≤ 9223372036854775807) (e1 : p.length ≤ 9223372036854775807) (e2 : c.length ≤ 9223372036854775807) (b0 : 0 ≤ left) (b1 : left ≤ 1048576) :
    Calls Tryd.prog 32 #[.agg #[.int .i8 wd, .int .i8 hi, v, t, u], .int .i64 left] w fun e w' => e = .returned (.int .i64 (if left - l.length - p.length - c.length < 0 then -1 else left - l.length - p.length - c.length)) ∧ Below w.heap.size w w' :=
  szMachine_any wd hi v t u l p c w h.a.sl h.b.sl h.c.sl left e0 e1 e2 b0 b1
theorem eqM (wd hi : Int) (b k q b' k' q' : Nat) (l : List Pc) (p : List Po) (c : List Cl) (w : World) (h : PK w b k q l p c) (h' : PK w b' k' q' l p c) (h8 : All8 l) (h81 : PosWf p) (h82 : ClsWf c) (bw : i8 wd) (bh : i8 hi) (m0 : l.length ≤ 1048576) (m1 : p.length ≤ 1048576) (m2 : c.length ≤ 1048576) :
    Calls Tryd.prog 36 #[.agg #[.int .i8 wd, .int .i8 hi, .slice (some ⟨b, 0, none⟩) l.length l.length, .slice (some ⟨k, 0, none⟩) p.length p.length, .slice (some ⟨q, 0, none⟩) c.length c.length], .agg #[.int .i8 wd, .int .i8 hi, .slice (some ⟨b', 0, none⟩) l.length l.length, .slice (some ⟨k', 0, none⟩) p.length p.length, .slice (some ⟨q', 0, none⟩) c.length c.length]] w fun e w' => e = .returned (.bool true) ∧ Below w.heap.size w w' :=
  eqMachine_any wd hi _ _ _ _ _ _ l p c w (Sl.mk b 0 _ h.p0 h.z0 (Nat.le_refl _)) (SlPo.mk k 0 _ h.p1 h.z1 (Nat.le_refl _)) (SlCl.mk q 0 _ h.p2 h.z2 (Nat.le_refl _)) (Sl.mk b' 0 _ h'.p0 h'.z0 (Nat.le_refl _)) (SlPo.mk k' 0 _ h'.p1 h'.z1 (Nat.le_refl _)) (SlCl.mk q' 0 _ h'.p2 h'.z2 (Nat.le_refl _)) h8 h81 h82 bw bh m0 m1 m2
end Go.Proofs.YtmllfacgonchnaaDoor
