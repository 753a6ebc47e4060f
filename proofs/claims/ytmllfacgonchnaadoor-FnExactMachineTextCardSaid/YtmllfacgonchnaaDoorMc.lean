/- Machines: a board, inputs, outputs: the laws' own functions on them; the reading of an argument. -/
import Derived.Test.YtmllfacgonchnaaDoorG1
import Derived.Test.YtmllfacgonchnaaDoorG4
import Derived.Test.YtmllfacgonchnaaDoorPo
import Derived.Test.YtmllfacgonchnaaDoorCl
import Derived.Deep.Strs
import Derived.Outline
import Derived.Deep.DeepCutAuto
namespace Go.Proofs.YtmllfacgonchnaaDoor
open Go.ChangeShapes Go.WideShapes Go.ChangeAt Go.RowKit Go.Deep
set_option linter.unusedVariables false
set_option linter.unusedSimpArgs false

theorem mBlk_lt {W : World} {b : Nat} {o : Obj} (h : W.heap[b]? = some o) : b < W.heap.size := (Array.getElem?_eq_some_iff.1 h).1
theorem mBlk_below {W W' : World} {b : Nat} {o : Obj} (h : W.heap[b]? = some o) (g : Below W.heap.size W W') : W'.heap[b]? = some o := (g.block b (mBlk_lt h)).trans h
theorem mBlk_far {W : World} {b : Nat} {o : Obj} {p : Addr} {v : Value} (h : W.heap[b]? = some o) (ho : b ≠ p.block) : (W.setCell p v).heap[b]? = some o := (Below.heap_setCell _ _ _ _ ho).trans h
theorem mBlk_set {w : World} {b i : Nat} {cs : Array Value} {t : TypeId} {fr : Nat × Nat} {v : Value} (h : w.heap[b]? = some (.cells cs t fr)) : (w.setCell ⟨b, i, none⟩ v).heap[b]? = some (.cells (cs.setIfInBounds i v) t fr) := by
  simp [World.setCell, Array.getElem?_modify, h]
theorem mNew (w : World) (o : Obj) : (w.alloc o).heap[w.heap.size]? = some o := by
  show (w.heap.push o)[w.heap.size]? = _
  simp
/-- the cells of a machine -/
def McAt (w : World) (b : Nat) (wd hi : Int) (v v1 v2 : Value) : Prop :=
  w.cell? ⟨b, 0, none⟩ = some (.int .i8 wd) ∧ w.cell? ⟨b, 1, none⟩ = some (.int .i8 hi) ∧ w.cell? ⟨b, 2, none⟩ = some v ∧ w.cell? ⟨b, 3, none⟩ = some v1 ∧ w.cell? ⟨b, 4, none⟩ = some v2
theorem McAt.below {W w' : World} {b : Nat} {wd hi : Int} {v v1 v2 : Value} (h : McAt W b wd hi v v1 v2) (hb : Below W.heap.size W w') (hl : b < W.heap.size) : McAt w' b wd hi v v1 v2 :=
  ⟨(hb.cell (p := ⟨b, _, none⟩) hl).trans h.1, (hb.cell (p := ⟨b, _, none⟩) hl).trans h.2.1, (hb.cell (p := ⟨b, _, none⟩) hl).trans h.2.2.1, (hb.cell (p := ⟨b, _, none⟩) hl).trans h.2.2.2.1, (hb.cell (p := ⟨b, _, none⟩) hl).trans h.2.2.2.2⟩
theorem McAt.of {w : World} {b : Nat} {wd hi : Int} {v v1 v2 : Value} {t : TypeId} (h : w.heap[b]? = some (.cells #[.int .i8 wd, .int .i8 hi, v, v1, v2] t (0, 0))) : McAt w b wd hi v v1 v2 :=
  ⟨cell_of_row _ _ 0 _ _ _ h, cell_of_row _ _ 1 _ _ _ h, cell_of_row _ _ 2 _ _ _ h, cell_of_row _ _ 3 _ _ _ h, cell_of_row _ _ 4 _ _ _ h⟩
theorem McAt.box (w : World) (wd hi : Int) (v v1 v2 : Value) (t : TypeId) : McAt (w.alloc (.cells #[.int .i8 wd, .int .i8 hi, v, v1, v2] t)) w.heap.size wd hi v v1 v2 := McAt.of (mNew _ _)
theorem McAt.lt {w : World} {b : Nat} {wd hi : Int} {v v1 v2 : Value} (h : McAt w b wd hi v v1 v2) : b < w.heap.size := World.block_lt_of_cell? w _ h.1
theorem mSl {w w' : World} {l : List Pc} {s : Value} (h : Sl w l s) (hb : Below w.heap.size w w') : Sl w' l s := by
  cases h with
  | empty a cap h => exact .empty a cap h
  | mk b o cap hc hbl hl => exact .mk b o cap (hc.below hb hbl) (Nat.lt_of_lt_of_le hbl hb.size) hl
theorem sl_val {w : World} {l : List Pc} {v : Value} (h : Sl w l v) : ∃ a c, v = .slice a l.length c := by
  cases h with
  | empty a cap h => exact ⟨a, cap, by rw [h]; rfl⟩
  | mk b o cap _ _ _ => exact ⟨_, cap, rfl⟩
theorem slPo_val {w : World} {l : List Po} {v : Value} (h : SlPo w l v) : ∃ a c, v = .slice a l.length c := by
  cases h with
  | empty a cap h => exact ⟨a, cap, by rw [h]; rfl⟩
  | mk b o cap _ _ _ => exact ⟨_, cap, rfl⟩
theorem slCl_val {w : World} {l : List Cl} {v : Value} (h : SlCl w l v) : ∃ a c, v = .slice a l.length c := by
  cases h with
  | empty a cap h => exact ⟨a, cap, by rw [h]; rfl⟩
  | mk b o cap _ _ _ => exact ⟨_, cap, rfl⟩
theorem mRow {a b : World} {g : Nat} (h : Below a.heap.size a b) (hg : a.heap.size ≤ g) (cs : Array Value) : Below a.heap.size a (b.setRow g cs) :=
  h.trans ⟨rfl, rfl, rfl, by simp, fun k hk => setRow_other _ _ _ _ (by omega)⟩
set_option maxRecDepth 100000 in
set_option maxHeartbeats 2000000 in
theorem szMachine_any (wd hi : Int) (v v1 v2 : Value) (l : List Pc) (l1 : List Po) (l2 : List Cl) (w : World) (h : Sl w l v) (h1 : SlPo w l1 v1) (h2 : SlCl w l2 v2) (left : Int) (hl : l.length ≤ 9223372036854775807) (hl1 : l1.length ≤ 9223372036854775807) (hl2 : l2.length ≤ 9223372036854775807) (b0 : 0 ≤ left) (b1 : left ≤ 1048576) :
    Calls Tryd.prog 32 #[.agg #[.int .i8 wd, .int .i8 hi, v, v1, v2], .int .i64 left] w fun e w' => e = .returned (.int .i64 (if left - l.length - l1.length - l2.length < 0 then -1 else left - l.length - l1.length - l2.length)) ∧ Below w.heap.size w w' := by
  have hk : Below w.heap.size w (w.alloc (.cells #[.int .i8 wd, .int .i8 hi, v, v1, v2] 67)) := by repeat (first | with_reducible exact Below.refl _ _ | (with_reducible refine kSet ?_ ?hB _; case hB => (simp; try omega)) | with_reducible refine kAlloc ?_ _ | with_reducible refine Below.drew ?_ | with_reducible refine kDrewN ?_ _ | with_reducible refine kTrans ?_ (by assumption))
  have bx := McAt.box w wd hi v v1 v2 67
  have H0 := Lib.hid (mSl h hk)
  have H1 := Lib.hid (h1.below hk)
  have H2 := Lib.hid (h2.below hk)
  obtain ⟨a, c, rfl⟩ := sl_val h
  obtain ⟨a1, c1, rfl⟩ := slPo_val h1
  obtain ⟨a2, c2, rfl⟩ := slCl_val h2
  have hbl := bx.lt
  clear h h1 h2
  by_cases g0 : left - (l.length : Int) < 0
  · rw [if_pos (by omega)]
    clear bx
    go_enter Tryd.func32, Tryd.ntmps32
    go_wp2_with fail
    refine (szBoard_any wd hi _ l _ H0.out left hl b0 b1).mono ?_
    rw [if_pos (by omega)]
    rintro e w1 ⟨rfl, hb1⟩
    go_wp2
    go_ret
    exact ⟨rfl, by repeat (first | with_reducible exact Below.refl _ _ | (with_reducible refine kSet ?_ ?hB _; case hB => (simp; try omega)) | with_reducible refine kAlloc ?_ _ | with_reducible refine Below.drew ?_ | with_reducible refine kDrewN ?_ _ | with_reducible refine kTrans ?_ (by assumption))⟩
  · by_cases g1 : left - (l.length : Int) - (l1.length : Int) < 0
    · rw [if_pos (by omega)]
      have g0' : ¬ left < (l.length : Int) := by omega
      go_enter Tryd.func32, Tryd.ntmps32
      go_wp2_with fail
      refine (szBoard_any wd hi _ l _ H0.out left hl b0 b1).mono ?_
      rw [if_neg (by omega)]
      rintro e w1 ⟨rfl, hb1⟩
      obtain ⟨c0, c1', c2', c3, c4⟩ := bx.below hb1 hbl
      have H1a := Lib.hid (H1.out.below hb1)
      clear bx
      go_wp2_with fail
      refine (szPortS_any _ l1 _ H1a.out _ hl1 (by omega) (by omega)).mono ?_
      rw [if_pos (by omega)]
      rintro e w2 ⟨rfl, rfl⟩
      go_wp2
      go_ret
      exact ⟨rfl, by repeat (first | with_reducible exact Below.refl _ _ | (with_reducible refine kSet ?_ ?hB _; case hB => (simp; try omega)) | with_reducible refine kAlloc ?_ _ | with_reducible refine Below.drew ?_ | with_reducible refine kDrewN ?_ _ | with_reducible refine kTrans ?_ (by assumption))⟩
    · have g0' : ¬ left < (l.length : Int) := by omega
      have g1' : ¬ left - (l.length : Int) < (l1.length : Int) := by omega
      go_enter Tryd.func32, Tryd.ntmps32
      go_wp2_with fail
      refine (szBoard_any wd hi _ l _ H0.out left hl b0 b1).mono ?_
      rw [if_neg (by omega)]
      rintro e w1 ⟨rfl, hb1⟩
      obtain ⟨c0, c1', c2', c3, c4⟩ := bx.below hb1 hbl
      have H1a := Lib.hid (H1.out.below hb1)
      have H2a := Lib.hid (H2.out.below hb1)
      clear bx
      go_wp2_with fail
      refine (szPortS_any _ l1 _ H1a.out _ hl1 (by omega) (by omega)).mono ?_
      rw [if_neg (by omega)]
      rintro e w2 ⟨rfl, rfl⟩
      go_wp2_with fail
      refine (szCellS_any _ l2 _ H2a.out _ hl2 (by omega) (by omega)).mono ?_
      rintro e w2 ⟨rfl, rfl⟩
      by_cases g2 : left - (l.length : Int) - (l1.length : Int) - (l2.length : Int) < 0
      · rw [if_pos g2]
        go_wp2
        go_ret
        exact ⟨rfl, by repeat (first | with_reducible exact Below.refl _ _ | (with_reducible refine kSet ?_ ?hB _; case hB => (simp; try omega)) | with_reducible refine kAlloc ?_ _ | with_reducible refine Below.drew ?_ | with_reducible refine kDrewN ?_ _ | with_reducible refine kTrans ?_ (by assumption))⟩
      · rw [if_neg g2]
        have g2' : ¬ left - (l.length : Int) - (l1.length : Int) < (l2.length : Int) := by omega
        go_wp2
        go_ret
        exact ⟨rfl, by repeat (first | with_reducible exact Below.refl _ _ | (with_reducible refine kSet ?_ ?hB _; case hB => (simp; try omega)) | with_reducible refine kAlloc ?_ _ | with_reducible refine Below.drew ?_ | with_reducible refine kDrewN ?_ _ | with_reducible refine kTrans ?_ (by assumption))⟩
set_option maxRecDepth 100000 in
set_option maxHeartbeats 4000000 in
theorem toMachine_any (wd hi : Int) (v v1 v2 : Value) (l : List Pc) (l1 : List Po) (l2 : List Cl) (w : World) (h : Sl w l v) (h1 : SlPo w l1 v1) (h2 : SlCl w l2 v2) (m0 : l.length ≤ 1048576) (m1 : l1.length ≤ 1048576) (m2 : l2.length ≤ 1048576) :
    Calls Tryd.prog 34 #[.agg #[.int .i8 wd, .int .i8 hi, v, v1, v2]] w fun e w' => ∃ k k1 k2, e = .returned (.agg #[.int .i8 wd, .int .i8 hi, .slice (some ⟨k, 0, none⟩) l.length l.length, .slice (some ⟨k1, 0, none⟩) l1.length l1.length, .slice (some ⟨k2, 0, none⟩) l2.length l2.length]) ∧
      PcsAt w' k 0 l ∧ PosAt w' k1 0 l1 ∧ ClsAt w' k2 0 l2 ∧ k < w'.heap.size ∧ k1 < w'.heap.size ∧ k2 < w'.heap.size ∧ w.heap.size ≤ k ∧ w.heap.size ≤ k1 ∧ w.heap.size ≤ k2 ∧ Below w.heap.size w w' := by
  obtain ⟨Z, hZ⟩ : ∃ Z : Obj, .cells #[.int .i8 0, .int .i8 0, .slice none 0 0, .slice none 0 0, .slice none 0 0] 73 = Z := ⟨_, rfl⟩
  have hk : Below w.heap.size w (((w.alloc (.cells #[.int .i8 wd, .int .i8 hi, v, v1, v2] 67)).alloc (.cells #[.int .i8 0, .int .i8 0, .slice none 0 0, .slice none 0 0, .slice none 0 0] 73)).alloc (.cells #[.int .i8 0, .int .i8 0, .slice none 0 0, .slice none 0 0, .slice none 0 0] 73)) := by repeat (first | with_reducible exact Below.refl _ _ | (with_reducible refine kSet ?_ ?hB _; case hB => (simp; try omega)) | with_reducible refine kAlloc ?_ _ | with_reducible refine Below.drew ?_ | with_reducible refine kDrewN ?_ _ | with_reducible refine kTrans ?_ (by assumption))
  obtain ⟨W, hW⟩ : ∃ W, ((w.alloc (.cells #[.int .i8 wd, .int .i8 hi, v, v1, v2] 67)).alloc (.cells #[.int .i8 0, .int .i8 0, .slice none 0 0, .slice none 0 0, .slice none 0 0] 73)).alloc (.cells #[.int .i8 0, .int .i8 0, .slice none 0 0, .slice none 0 0, .slice none 0 0] 73) = W := ⟨_, rfl⟩
  rw [hW] at hk
  have bA : W.heap[w.heap.size]? = some (.cells #[.int .i8 wd, .int .i8 hi, v, v1, v2] 67 (0, 0)) := by
    rw [← hW]; exact mBlk_below (mNew _ _) (kAlloc (kAlloc (Below.refl _ _) _) _)
  have bR : W.heap[w.heap.size + 1]? = some (.cells #[.int .i8 0, .int .i8 0, .slice none 0 0, .slice none 0 0, .slice none 0 0] 73 (0, 0)) := by
    rw [← hW]
    have h := mNew (w.alloc (.cells #[.int .i8 wd, .int .i8 hi, v, v1, v2] 67)) (.cells #[.int .i8 0, .int .i8 0, .slice none 0 0, .slice none 0 0, .slice none 0 0] 73)
    simp only [World.size_alloc] at h
    exact mBlk_below h (kAlloc (Below.refl _ _) _)
  have bX : W.heap[w.heap.size + 2]? = some (.cells #[.int .i8 0, .int .i8 0, .slice none 0 0, .slice none 0 0, .slice none 0 0] 73 (0, 0)) := by
    rw [← hW]
    have h := mNew ((w.alloc (.cells #[.int .i8 wd, .int .i8 hi, v, v1, v2] 67)).alloc (.cells #[.int .i8 0, .int .i8 0, .slice none 0 0, .slice none 0 0, .slice none 0 0] 73)) (.cells #[.int .i8 0, .int .i8 0, .slice none 0 0, .slice none 0 0, .slice none 0 0] 73)
    simpa only [World.size_alloc] using h
  have hWs := hk.size
  have hW3 := mBlk_lt bX
  have H0 := Lib.hid (mSl h hk)
  have H1 := Lib.hid h1
  have H2 := Lib.hid h2
  obtain ⟨va, vc, rfl⟩ := sl_val h
  obtain ⟨va1, vc1, rfl⟩ := slPo_val h1
  obtain ⟨va2, vc2, rfl⟩ := slCl_val h2
  have HW := Lib.hid hW
  have BR := Lib.hid bR
  have BX := Lib.hid bX
  obtain ⟨a0, a1, a2, a3, a4⟩ := McAt.of bA
  have BA := Lib.hid bA
  clear h h1 h2 hW hZ bA bR bX
  go_enter Tryd.func34, Tryd.ntmps34
  go_upto_region 2 with fail
  rw [HW.out]
  go_wp2_with fail
  refine (toBoard_any wd hi _ l _ H0.out m0).mono ?_
  rintro e w1 ⟨k, rfl, y0, z0, p0, hb1⟩
  have x1 := mBlk_below BX.out hb1
  have c0 : w1.cell? ⟨w.heap.size + 2, 0, none⟩ = some (.int .i8 0) := cell_of_row _ _ 0 _ _ _ x1
  have c1 : w1.cell? ⟨w.heap.size + 2, 1, none⟩ = some (.int .i8 0) := cell_of_row _ _ 1 _ _ _ x1
  have c2 : w1.cell? ⟨w.heap.size + 2, 2, none⟩ = some (.slice none 0 0) := cell_of_row _ _ 2 _ _ _ x1
  have cf : ∀ j, w1.frozen? ⟨w.heap.size + 2, j, none⟩ = false := fun j => frozen_of_row _ _ j _ _ x1
  have hs1 := hb1.size
  obtain ⟨V1, hV1⟩ : ∃ V1, ((w1.setCell ⟨w.heap.size + 2, 0, none⟩ (.int .i8 wd)).setCell ⟨w.heap.size + 2, 1, none⟩ (.int .i8 hi)).setCell ⟨w.heap.size + 2, 2, none⟩ (.slice (some ⟨k, 0, none⟩) l.length l.length) = V1 := ⟨_, rfl⟩
  have X1 : Hid (V1.heap[w.heap.size + 2]? = some (.cells #[.int .i8 wd, .int .i8 hi, .slice (some ⟨k, 0, none⟩) l.length l.length, .slice none 0 0, .slice none 0 0] 73 (0, 0))) := Lib.hid (by rw [← hV1]; exact mBlk_set (mBlk_set (mBlk_set x1)))
  have o1 : ∀ b, b ≠ w.heap.size + 2 → V1.heap[b]? = w1.heap[b]? := fun b hb => by rw [← hV1, Below.heap_setCell _ _ _ _ hb, Below.heap_setCell _ _ _ _ hb, Below.heap_setCell _ _ _ _ hb]
  have T1 : Below w.heap.size w V1 := by rw [← hV1]; exact kSet (kSet (kSet (kTrans hk hb1) (by show w.heap.size ≤ w.heap.size + 2; omega) _) (by show w.heap.size ≤ w.heap.size + 2; omega) _) (by show w.heap.size ≤ w.heap.size + 2; omega) _
  have sV1 : V1.heap.size = w1.heap.size := by rw [← hV1]; simp [World.setCell]
  have A1 := Lib.hid ((o1 w.heap.size (by omega)).trans (mBlk_below BA.out hb1))
  have R1 := Lib.hid ((o1 (w.heap.size + 1) (by omega)).trans (mBlk_below BR.out hb1))
  have P0 : Hid (PcsAt V1 k 0 l) := Lib.hid (fun i hi' => by
    have hc : ∀ j, V1.cell? ⟨k, j, none⟩ = w1.cell? ⟨k, j, none⟩ := fun j => World.cell?_of_block (w := w1) (o1 k (by omega))
    obtain ⟨e0, e1, e2, e3, e4⟩ := p0 i hi'
    exact ⟨(hc _).trans e0, (hc _).trans e1, (hc _).trans e2, (hc _).trans e3, (hc _).trans e4⟩)
  have k1 := Nat.lt_of_lt_of_le z0 (Nat.le_of_eq sV1.symm)
  have HV1 := Lib.hid hV1
  have H1a := Lib.hid (H1.out.below T1)
  clear p0 x1 o1 hV1 BR BX BA HW H0 H1 hb1
  go_upto_region 3 with fail
  rw [HV1.out]
  clear c0 c1 c2 cf a0 a1 a2 a3 a4 HV1
  obtain ⟨a0, a1, a2, a3, a4⟩ := McAt.of A1.out
  go_wp2_with fail
  refine (toPortS_any _ l1 _ H1a.out m1).mono ?_
  rintro e w2 ⟨rfl, p1, z1, _, hb2⟩
  have x2 := mBlk_below X1.out hb2
  have c3 : w2.cell? ⟨w.heap.size + 2, 3, none⟩ = some (.slice none 0 0) := cell_of_row _ _ 3 _ _ _ x2
  have cf : ∀ j, w2.frozen? ⟨w.heap.size + 2, j, none⟩ = false := fun j => frozen_of_row _ _ j _ _ x2
  have hs2 := hb2.size
  obtain ⟨K1, hK1⟩ : ∃ K1, V1.heap.size = K1 := ⟨_, rfl⟩
  rw [hK1] at p1 z1 hs2 ⊢
  obtain ⟨V2, hV2⟩ : ∃ V2, w2.setCell ⟨w.heap.size + 2, 3, none⟩ (.slice (some ⟨K1, 0, none⟩) l1.length l1.length) = V2 := ⟨_, rfl⟩
  have X2 : Hid (V2.heap[w.heap.size + 2]? = some (.cells #[.int .i8 wd, .int .i8 hi, .slice (some ⟨k, 0, none⟩) l.length l.length, .slice (some ⟨K1, 0, none⟩) l1.length l1.length, .slice none 0 0] 73 (0, 0))) := Lib.hid (by rw [← hV2]; exact mBlk_set x2)
  have o2 : ∀ b, b ≠ w.heap.size + 2 → V2.heap[b]? = w2.heap[b]? := fun b hb => by rw [← hV2, Below.heap_setCell _ _ _ _ hb]
  have T2 : Below w.heap.size w V2 := by rw [← hV2]; exact kSet (kTrans T1 hb2) (by show w.heap.size ≤ w.heap.size + 2; omega) _
  have sV2 : V2.heap.size = w2.heap.size := by rw [← hV2]; simp [World.setCell]
  have A2 := Lib.hid ((o2 w.heap.size (by omega)).trans (mBlk_below A1.out hb2))
  have R2 := Lib.hid ((o2 (w.heap.size + 1) (by omega)).trans (mBlk_below R1.out hb2))
  have P0' : Hid (PcsAt V2 k 0 l) := Lib.hid (fun i hi' => by
    have hc : ∀ j, V2.cell? ⟨k, j, none⟩ = w2.cell? ⟨k, j, none⟩ := fun j => World.cell?_of_block (w := w2) (o2 k (by omega))
    obtain ⟨e0, e1, e2, e3, e4⟩ := (P0.out.below hb2 k1) i hi'
    exact ⟨(hc _).trans e0, (hc _).trans e1, (hc _).trans e2, (hc _).trans e3, (hc _).trans e4⟩)
  have P1 : Hid (PosAt V2 K1 0 l1) := Lib.hid (fun i hi' => by
    have hc : ∀ j, V2.cell? ⟨K1, j, none⟩ = w2.cell? ⟨K1, j, none⟩ := fun j => World.cell?_of_block (w := w2) (o2 K1 (by omega))
    obtain ⟨e0, e1, e2⟩ := p1 i hi'
    exact ⟨(hc _).trans e0, (hc _).trans e1, (hc _).trans e2⟩)
  have HV2 := Lib.hid hV2
  have H2a := Lib.hid (H2.out.below T2)
  clear p1 x2 o2 hV2 hb2 H1a H2 A1 R1 X1 P0
  go_upto_region 4 with fail
  rw [HV2.out]
  clear c3 cf a0 a1 a2 a3 a4 HV2
  obtain ⟨a0, a1, a2, a3, a4⟩ := McAt.of A2.out
  go_wp2_with fail
  refine (toCellS_any _ l2 _ H2a.out m2).mono ?_
  rintro e w3 ⟨rfl, p2, z2, _, hb3⟩
  have x3 := mBlk_below X2.out hb3
  have c4 : w3.cell? ⟨w.heap.size + 2, 4, none⟩ = some (.slice none 0 0) := cell_of_row _ _ 4 _ _ _ x3
  have cf : ∀ j, w3.frozen? ⟨w.heap.size + 2, j, none⟩ = false := fun j => frozen_of_row _ _ j _ _ x3
  have hs3 := hb3.size
  obtain ⟨K2, hK2⟩ : ∃ K2, V2.heap.size = K2 := ⟨_, rfl⟩
  rw [hK2] at p2 z2 hs3 ⊢
  obtain ⟨V3, hV3⟩ : ∃ V3, w3.setCell ⟨w.heap.size + 2, 4, none⟩ (.slice (some ⟨K2, 0, none⟩) l2.length l2.length) = V3 := ⟨_, rfl⟩
  have X3 : Hid (V3.heap[w.heap.size + 2]? = some (.cells #[.int .i8 wd, .int .i8 hi, .slice (some ⟨k, 0, none⟩) l.length l.length, .slice (some ⟨K1, 0, none⟩) l1.length l1.length, .slice (some ⟨K2, 0, none⟩) l2.length l2.length] 73 (0, 0))) := Lib.hid (by rw [← hV3]; exact mBlk_set x3)
  have o3 : ∀ b, b ≠ w.heap.size + 2 → V3.heap[b]? = w3.heap[b]? := fun b hb => by rw [← hV3, Below.heap_setCell _ _ _ _ hb]
  have T3 : Below w.heap.size w V3 := by rw [← hV3]; exact kSet (kTrans T2 hb3) (by show w.heap.size ≤ w.heap.size + 2; omega) _
  have sV3 : V3.heap.size = w3.heap.size := by rw [← hV3]; simp [World.setCell]
  have R3 := Lib.hid ((o3 (w.heap.size + 1) (by omega)).trans (mBlk_below R2.out hb3))
  have P0'' : Hid (PcsAt V3 k 0 l) := Lib.hid (fun i hi' => by
    have hc : ∀ j, V3.cell? ⟨k, j, none⟩ = w3.cell? ⟨k, j, none⟩ := fun j => World.cell?_of_block (w := w3) (o3 k (by omega))
    obtain ⟨e0, e1, e2, e3, e4⟩ := (P0'.out.below hb3 (by omega)) i hi'
    exact ⟨(hc _).trans e0, (hc _).trans e1, (hc _).trans e2, (hc _).trans e3, (hc _).trans e4⟩)
  have P1' : Hid (PosAt V3 K1 0 l1) := Lib.hid (fun i hi' => by
    have hc : ∀ j, V3.cell? ⟨K1, j, none⟩ = w3.cell? ⟨K1, j, none⟩ := fun j => World.cell?_of_block (w := w3) (o3 K1 (by omega))
    obtain ⟨e0, e1, e2⟩ := (P1.out.below hb3 (by omega)) i hi'
    exact ⟨(hc _).trans e0, (hc _).trans e1, (hc _).trans e2⟩)
  have P2 : Hid (ClsAt V3 K2 0 l2) := Lib.hid (fun i hi' => by
    have hc : ∀ j, V3.cell? ⟨K2, j, none⟩ = w3.cell? ⟨K2, j, none⟩ := fun j => World.cell?_of_block (w := w3) (o3 K2 (by omega))
    obtain ⟨e0, e1⟩ := p2 i hi'
    exact ⟨(hc _).trans e0, (hc _).trans e1⟩)
  have HV3 := Lib.hid hV3
  clear p2 x3 o3 hV3 hb3 H2a A2 R2 X2 P0' P1
  go_upto_region 5 with fail
  rw [HV3.out]
  clear c4 cf a0 a1 a2 a3 a4 HV3
  obtain ⟨a0, a1, a2, a3, a4⟩ := McAt.of X3.out
  have rs := R3.out
  go_wp2_with (refine wpList_store_row rfl 73 _ _ rfl (w.heap.size + 1) #[.int .i8 wd, .int .i8 hi, .slice (some ⟨k, 0, none⟩) l.length l.length, .slice (some ⟨K1, 0, none⟩) l1.length l1.length, .slice (some ⟨K2, 0, none⟩) l2.length l2.length] rfl rfl 73 _ rs (by kernel_rfl) (by kernel_rfl) (by kernel_rfl) ?_)
  refine bodyPost_ret (v := .agg #[.int .i8 wd, .int .i8 hi, .slice (some ⟨k, 0, none⟩) l.length l.length, .slice (some ⟨K1, 0, none⟩) l1.length l1.length, .slice (some ⟨K2, 0, none⟩) l2.length l2.length]) (results_cell_row rfl _ _ (w.heap.size + 1) 73 #[.int .i8 wd, .int .i8 hi, .slice (some ⟨k, 0, none⟩) l.length l.length, .slice (some ⟨K1, 0, none⟩) l1.length l1.length, .slice (some ⟨K2, 0, none⟩) l2.length l2.length] (0, 0) _ rfl (setRow_heap _ _ _ _ _ _ rs) Tryd.underlying73 rfl (by kernel_rfl)) rfl ?_
  have hne : ∀ b, b ≠ w.heap.size + 1 → ∀ j, (V3.setRow (w.heap.size + 1) #[.int .i8 wd, .int .i8 hi, .slice (some ⟨k, 0, none⟩) l.length l.length, .slice (some ⟨K1, 0, none⟩) l1.length l1.length, .slice (some ⟨K2, 0, none⟩) l2.length l2.length]).cell? ⟨b, j, none⟩ = V3.cell? ⟨b, j, none⟩ := fun b hb j => World.cell?_of_block (w := V3) (setRow_other _ _ _ _ hb)
  have hsz : (V3.setRow (w.heap.size + 1) #[.int .i8 wd, .int .i8 hi, .slice (some ⟨k, 0, none⟩) l.length l.length, .slice (some ⟨K1, 0, none⟩) l1.length l1.length, .slice (some ⟨K2, 0, none⟩) l2.length l2.length]).heap.size = V3.heap.size := by simp [World.setRow]
  refine ⟨k, K1, K2, rfl, fun i hi' => ?_, fun i hi' => ?_, fun i hi' => ?_, by rw [hsz]; omega, by rw [hsz]; omega, by rw [hsz]; omega, by omega, by omega, by omega, mRow T3 (by omega) _⟩
  · obtain ⟨e0, e1, e2, e3, e4⟩ := P0''.out i hi'
    exact ⟨(hne _ (by omega) _).trans e0, (hne _ (by omega) _).trans e1, (hne _ (by omega) _).trans e2, (hne _ (by omega) _).trans e3, (hne _ (by omega) _).trans e4⟩
  · obtain ⟨e0, e1, e2⟩ := P1'.out i hi'
    exact ⟨(hne _ (by omega) _).trans e0, (hne _ (by omega) _).trans e1, (hne _ (by omega) _).trans e2⟩
  · obtain ⟨e0, e1⟩ := P2.out i hi'
    exact ⟨(hne _ (by omega) _).trans e0, (hne _ (by omega) _).trans e1⟩
set_option maxRecDepth 100000 in
set_option maxHeartbeats 2000000 in
theorem eqMachine_any (wd hi : Int) (va va1 va2 vb vb1 vb2 : Value) (l : List Pc) (l1 : List Po) (l2 : List Cl) (w : World) (ha : Sl w l va) (ha1 : SlPo w l1 va1) (ha2 : SlCl w l2 va2) (hb : Sl w l vb) (hb1 : SlPo w l1 vb1) (hb2 : SlCl w l2 vb2) (h8 : All8 l) (h81 : PosWf l1) (h82 : ClsWf l2) (bw : i8 wd) (bh : i8 hi) (m0 : l.length ≤ 1048576) (m1 : l1.length ≤ 1048576) (m2 : l2.length ≤ 1048576) :
    Calls Tryd.prog 36 #[.agg #[.int .i8 wd, .int .i8 hi, va, va1, va2], .agg #[.int .i8 wd, .int .i8 hi, vb, vb1, vb2]] w fun e w' => e = .returned (.bool true) ∧ Below w.heap.size w w' := by
  obtain ⟨W, hW⟩ : ∃ W, (w.alloc (.cells #[.int .i8 wd, .int .i8 hi, va, va1, va2] 73)).alloc (.cells #[.int .i8 wd, .int .i8 hi, vb, vb1, vb2] 73) = W := ⟨_, rfl⟩
  have hk : Below w.heap.size w W := by rw [← hW]; exact kAlloc (kAlloc (Below.refl _ _) _) _
  have gA : McAt W w.heap.size wd hi va va1 va2 := by rw [← hW]; exact (McAt.box w wd hi va va1 va2 73).below (kAlloc (Below.refl _ _) _) (by simp)
  have gB : McAt W (w.heap.size + 1) wd hi vb vb1 vb2 := by
    rw [← hW]
    have h := McAt.box (w.alloc (.cells #[.int .i8 wd, .int .i8 hi, va, va1, va2] 73)) wd hi vb vb1 vb2 73
    simpa only [World.size_alloc] using h
  have HA := Lib.hid (mSl ha hk)
  have HA1 := Lib.hid (ha1.below hk)
  have HA2 := Lib.hid (ha2.below hk)
  have HB := Lib.hid (mSl hb hk)
  have HB1 := Lib.hid (hb1.below hk)
  have HB2 := Lib.hid (hb2.below hk)
  obtain ⟨a, ac, rfl⟩ := sl_val ha
  obtain ⟨a1, ac1, rfl⟩ := slPo_val ha1
  obtain ⟨a2, ac2, rfl⟩ := slCl_val ha2
  obtain ⟨b, bc, rfl⟩ := sl_val hb
  obtain ⟨b1, bc1, rfl⟩ := slPo_val hb1
  obtain ⟨b2, bc2, rfl⟩ := slCl_val hb2
  have GA := Lib.hid gA
  have GB := Lib.hid gB
  have HW := Lib.hid hW
  have H8 := Lib.hid h8
  have H81 := Lib.hid h81
  have H82 := Lib.hid h82
  have la := gA.lt
  have lb := gB.lt
  obtain ⟨x0, x1, x2, x3, x4⟩ := gA
  obtain ⟨y0, y1, y2, y3, y4⟩ := gB
  clear ha ha1 ha2 hb hb1 hb2 h8 h81 h82 hW
  go_enter Tryd.func36, Tryd.ntmps36
  go_upto_region 1 with fail
  rw [HW.out]
  go_wp2_with fail
  refine (eqBoard_any wd hi _ _ l _ HA.out HB.out H8.out m0).mono ?_
  rintro e w1 ⟨rfl, e1⟩
  have T1 := kTrans hk e1
  have GA1 := GA.out.below e1 la
  have GB1 := GB.out.below e1 lb
  clear x0 x1 x2 x3 x4 y0 y1 y2 y3 y4
  have la1 := GA1.lt
  have lb1 := GB1.lt
  have GA1' := Lib.hid GA1
  have GB1' := Lib.hid GB1
  obtain ⟨x0, x1, x2, x3, x4⟩ := GA1
  obtain ⟨y0, y1, y2, y3, y4⟩ := GB1
  have K1 := Lib.hid (HA1.out.below e1)
  have L1 := Lib.hid (HB1.out.below e1)
  have K2 := Lib.hid (HA2.out.below e1)
  have L2 := Lib.hid (HB2.out.below e1)
  clear HA HA1 HA2 HB HB1 HB2 GA GB e1 HW
  go_wp2_with fail
  refine (eqPortS_any _ _ l1 _ K1.out L1.out H81.out m1).mono ?_
  rintro e w2 ⟨rfl, e2⟩
  have T2 := kTrans T1 e2
  have GA2 := GA1'.out.below e2 la1
  have GB2 := GB1'.out.below e2 lb1
  clear x0 x1 x2 x3 x4 y0 y1 y2 y3 y4
  obtain ⟨x0, x1, x2, x3, x4⟩ := GA2
  obtain ⟨y0, y1, y2, y3, y4⟩ := GB2
  have M2 := Lib.hid (K2.out.below e2)
  have N2 := Lib.hid (L2.out.below e2)
  clear K1 L1 K2 L2 e2 GA1' GB1'
  go_wp2_with fail
  refine (eqCellS_any _ _ l2 _ M2.out N2.out H82.out m2).mono ?_
  rintro e w3 ⟨rfl, e3⟩
  have T3 := kTrans T2 e3
  clear x0 x1 x2 x3 x4 y0 y1 y2 y3 y4
  go_wp2
  go_ret
  exact ⟨rfl, T3⟩
theorem open_machine {H : Type} {enc : TypeId × Value → H} {P : Program} {w w2 : World} {r : Reach} {b0 base : Nat} {spare : Nat → Bool} {held : Bool} {t e e1 e2 : TypeId} {f0 f1 f2 g0 g1 g2 : Field} {v : Value} {d : DataW H} {p : List MemPlace}
    (hs : P.underlying t = some (.struct #[f0, f1, f2])) (hC : P.cellsOf t = 5) (ho : f0.offset = 0 ∧ f1.offset = 3 ∧ f2.offset = 4) (hcc : P.cellsOf f0.type = 3 ∧ P.cellsOf f1.type = 1 ∧ P.cellsOf f2.type = 1)
    (hs0 : P.underlying f0.type = some (.struct #[g0, g1, g2])) (hu : P.underlying g0.type = some (.int .i8) ∧ P.underlying g1.type = some (.int .i8) ∧ P.underlying g2.type = some (.slice e)) (ho0 : g0.offset = 0 ∧ g1.offset = 1 ∧ g2.offset = 2) (hcc0 : P.cellsOf g0.type = 1 ∧ P.cellsOf g1.type = 1 ∧ P.cellsOf g2.type = 1)
    (hu1 : P.underlying f1.type = some (.slice e1)) (hu2 : P.underlying f2.type = some (.slice e2))
    (hce : P.cellsOf e = 5) (hfl : flat P 4 e = some [.i8, .i8, .i8, .i8, .i8]) (hce1 : P.cellsOf e1 = 3) (hfl1 : flat P 4 e1 = some [.i8, .i8, .i8]) (hce2 : P.cellsOf e2 = 2) (hfl2 : flat P 4 e2 = some [.i8, .i8])
    (hv : Value.okWide P w2 r b0 t v) (h : DataW.Trod enc P w base spare held t v d p) :
    ∃ (wd hi : Int) (s s1 s2 : Value) (l : List Pc) (l1 : List Po) (l2 : List Cl), v = .agg #[.int .i8 wd, .int .i8 hi, s, s1, s2] ∧ i8 wd ∧ i8 hi ∧ Sl w l s ∧ All8 l ∧ l.length ≤ 9223372036854775807 ∧ SlPo w l1 s1 ∧ PosWf l1 ∧ l1.length ≤ maxLen ∧ SlCl w l2 s2 ∧ ClsWf l2 ∧ l2.length ≤ maxLen := by
  have hv' : ∃ cs : Array Value, v = .agg cs := by
    unfold Value.okWide at hv
    split at hv
    · obtain ⟨cs, rfl, _⟩ := hv; exact ⟨cs, rfl⟩
    · obtain ⟨cs, rfl, _⟩ := hv; exact ⟨cs, rfl⟩
    · rename_i h1 h2
      exact absurd hs (h1 _)
  obtain ⟨cs, rfl⟩ := hv'
  obtain ⟨fuel, hx⟩ := h
  obtain ⟨y0, y1, y2, n, _, hl, k0, k1, k2⟩ := trod_struct3 hs hx
  obtain ⟨L⟩ := cs
  simp only [Value.cells] at hl k0 k1 k2
  rw [hC] at hl
  rw [ho.1, hcc.1] at k0
  rw [ho.2.1, hcc.2.1] at k1
  rw [ho.2.2, hcc.2.2] at k2
  match L, hl, k0, k1, k2 with
  | [a0, a1, a2, a3, a4], _, k0, k1, k2 =>
    simp only [List.drop_zero, List.take_succ_cons, List.take_zero, List.drop_succ_cons] at k0 k1 k2
    obtain ⟨z0, z1, z2, n', _, hl', j0, j1, j2⟩ := trod_struct3 hs0 k0
    rw [ho0.1, hcc0.1] at j0
    rw [ho0.2.1, hcc0.2.1] at j1
    rw [ho0.2.2, hcc0.2.2] at j2
    simp only [List.drop_zero, List.take_succ_cons, List.take_zero, List.drop_succ_cons] at j0 j1 j2
    obtain ⟨wd, e0, _, wa⟩ := DataW.trod_int hu.1 j0
    obtain ⟨hi, e1', _, wb⟩ := DataW.trod_int hu.2.1 j1
    simp only [List.cons.injEq, and_true] at e0 e1'
    subst e0 e1'
    obtain ⟨l, hsl, h8, hm⟩ := open_pcs hu.2.2 hce hfl j2
    obtain ⟨l1, hsl1, h81, hm1⟩ := open_Pos hu1 hce1 hfl1 k1
    obtain ⟨l2, hsl2, h82, hm2⟩ := open_Cls hu2 hce2 hfl2 k2
    exact ⟨wd, hi, a2, a3, a4, l, l1, l2, rfl, i8_of wa, i8_of wb, hsl, h8, by unfold maxLen at hm; omega, hsl1, h81, hm1, hsl2, h82, hm2⟩
theorem machine_struct : ∃ f0 f1 f2 g0 g1 g2 : Field, (Tryd.prog.underlying 67 = some (.struct #[f0, f1, f2]) ∧ Tryd.prog.cellsOf 67 = 5) ∧ (f0.offset = 0 ∧ f1.offset = 3 ∧ f2.offset = 4) ∧ (Tryd.prog.cellsOf f0.type = 3 ∧ Tryd.prog.cellsOf f1.type = 1 ∧ Tryd.prog.cellsOf f2.type = 1) ∧
    Tryd.prog.underlying f0.type = some (.struct #[g0, g1, g2]) ∧ (Tryd.prog.underlying g0.type = some (.int .i8) ∧ Tryd.prog.underlying g1.type = some (.int .i8) ∧ Tryd.prog.underlying g2.type = some (.slice 152)) ∧ (g0.offset = 0 ∧ g1.offset = 1 ∧ g2.offset = 2) ∧ (Tryd.prog.cellsOf g0.type = 1 ∧ Tryd.prog.cellsOf g1.type = 1 ∧ Tryd.prog.cellsOf g2.type = 1) ∧
    Tryd.prog.underlying f1.type = some (.slice 170) ∧ Tryd.prog.underlying f2.type = some (.slice 41) :=
  ⟨_, _, _, _, _, _, ⟨Tryd.underlying67, by kernel_rfl⟩, ⟨by kernel_rfl, by kernel_rfl, by kernel_rfl⟩, ⟨by kernel_rfl, by kernel_rfl, by kernel_rfl⟩, Tryd.underlying25, ⟨by kernel_rfl, by kernel_rfl, by kernel_rfl⟩, ⟨by kernel_rfl, by kernel_rfl, by kernel_rfl⟩, ⟨by kernel_rfl, by kernel_rfl, by kernel_rfl⟩, by kernel_rfl, by kernel_rfl⟩
end Go.Proofs.YtmllfacgonchnaaDoor
