/- A machine's copy as its maker has it; its marks. -/
import Derived.Test.YtmllfacgonchnaaDoorMc
import Derived.Test.YtmllfacgonchnaaDoorPok
import Derived.Test.YtmllfacgonchnaaDoorClk
namespace Go.Proofs.YtmllfacgonchnaaDoor
open Go.ChangeShapes Go.WideShapes Go.ChangeAt Go.RowKit Go.Joins Go.Deep
set_option linter.unusedVariables false
set_option linter.unusedSimpArgs false

/-- three slices of a machine, each in a block of its own, that the holder may write -/
structure OwnM (lo hi : Nat) (w : World) (b k q : Nat) (l : List Pc) (p : List Po) (c : List Cl) : Prop where
  p0 : PcsAt w b 0 l
  p1 : PosAt w k 0 p
  p2 : ClsAt w q 0 c
  f0 : ∀ j, w.frozen? ⟨b, j, none⟩ = false
  f1 : ∀ j, w.frozen? ⟨k, j, none⟩ = false
  f2 : ∀ j, w.frozen? ⟨q, j, none⟩ = false
  g0 : lo ≤ b
  g1 : b < k
  g2 : k < q
  h0 : b < w.heap.size
  h1 : k < w.heap.size
  h2 : q < w.heap.size
  hh : hi ≤ w.heap.size
  hb : q < hi
  hl : lo ≤ hi
theorem OwnM.below {lo hi b k q : Nat} {w w' : World} {l : List Pc} {p : List Po} {c : List Cl} (h : OwnM lo hi w b k q l p c) (g : Below w.heap.size w w') : OwnM lo hi w' b k q l p c :=
  ⟨h.p0.below g h.h0, h.p1.below g h.h1, h.p2.below g h.h2, fun j => (g.frozen (p := ⟨b, j, none⟩) h.h0).trans (h.f0 j), fun j => (g.frozen (p := ⟨k, j, none⟩) h.h1).trans (h.f1 j), fun j => (g.frozen (p := ⟨q, j, none⟩) h.h2).trans (h.f2 j), h.g0, h.g1, h.g2,
    Nat.lt_of_lt_of_le h.h0 g.size, Nat.lt_of_lt_of_le h.h1 g.size, Nat.lt_of_lt_of_le h.h2 g.size, Nat.le_trans h.hh g.size, h.hb, h.hl⟩
set_option maxHeartbeats 2000000 in
theorem toBoard_fr (wd hi : Int) (v : Value) (l : List Pc) (w : World) (h : Sl w l v) (hl : l.length ≤ 1048576) :
    Calls Tryd.prog 11 #[.agg #[.int .i8 wd, .int .i8 hi, v]] w fun e w' => ∃ b, e = .returned (.agg #[.int .i8 wd, .int .i8 hi, .slice (some ⟨b, 0, none⟩) l.length l.length]) ∧ (∀ j, w'.frozen? ⟨b, j, none⟩ = false) ∧ b < w'.heap.size ∧ PcsAt w' b 0 l ∧ w.heap.size ≤ b ∧ Below w.heap.size w w' := by
  have H := Lib.hid (fun w2 (hb2 : Below w.heap.size w w2) => toPieceS_own v l w2 (h.below hb2) hl)
  clear h
  go_enter Tryd.func11, Tryd.ntmps11
  go_wp2_with fail
  refine (H.out _ (by repeat (first | with_reducible exact Below.refl _ _ | (with_reducible refine kSet ?_ ?hB _; case hB => (simp; try omega)) | with_reducible refine kAlloc ?_ _ | with_reducible refine Below.drew ?_ | with_reducible refine kDrewN ?_ _ | with_reducible refine kTrans ?_ (by assumption)))).mono ?_
  rintro e w1 ⟨rfl, hp, hs, hf, hb⟩
  simp only [World.size_alloc] at hp hs hf
  have hp' := Lib.hid hp
  have hf' := Lib.hid hf
  clear hp hf
  obtain ⟨hc, hfz⟩ := bcell hb
  have hz : w.heap.size + 1 + 1 + 1 ≤ w1.heap.size := by have := hb.size; simp at this; omega
  go_wp2
  refine bodyPost_ret (v := .agg #[.int .i8 wd, .int .i8 hi, .slice (some ⟨w.heap.size + 1 + 1 + 1, 0, none⟩) l.length l.length]) (by simp [results, Tryd.results11, go_sem, hc]) rfl ?_
  have hs' : w.heap.size + 1 + 1 + 1 < w1.heap.size := by simpa using hs
  refine ⟨_, rfl, fun j => ?_, ?_, ?_, ?_, by repeat (first | with_reducible exact Below.refl _ _ | (with_reducible refine kSet ?_ ?hB _; case hB => (simp; try omega)) | with_reducible refine kAlloc ?_ _ | with_reducible refine Below.drew ?_ | with_reducible refine kDrewN ?_ _ | with_reducible refine kTrans ?_ (by assumption))⟩
  · simp only [World.frozen?_setCell]; exact hf'.out j
  · simpa using hs'
  · repeat (first | exact hp'.out | refine PcsAt.setB ?_ (by simp))
  · omega
set_option maxRecDepth 100000 in
set_option maxHeartbeats 4000000 in
theorem toMachine_own (wd hi : Int) (v v1 v2 : Value) (l : List Pc) (l1 : List Po) (l2 : List Cl) (w : World) (h : Sl w l v) (h1 : SlPo w l1 v1) (h2 : SlCl w l2 v2) (m0 : l.length ≤ 1048576) (m1 : l1.length ≤ 1048576) (m2 : l2.length ≤ 1048576) :
    Calls Tryd.prog 34 #[.agg #[.int .i8 wd, .int .i8 hi, v, v1, v2]] w fun e w' => ∃ k k1 k2, e = .returned (.agg #[.int .i8 wd, .int .i8 hi, .slice (some ⟨k, 0, none⟩) l.length l.length, .slice (some ⟨k1, 0, none⟩) l1.length l1.length, .slice (some ⟨k2, 0, none⟩) l2.length l2.length]) ∧
      OwnM w.heap.size w'.heap.size w' k k1 k2 l l1 l2 ∧ Below w.heap.size w w' := by
  obtain ⟨Z, hZ⟩ : ∃ Z : Obj, .cells #[.int .i8 0, .int .i8 0, .slice none 0 0, .slice none 0 0, .slice none 0 0] 73 = Z := ⟨_, rfl⟩
  have hk : Below w.heap.size w (((w.alloc (.cells #[.int .i8 wd, .int .i8 hi, v, v1, v2] 67)).alloc (.cells #[.int .i8 0, .int .i8 0, .slice none 0 0, .slice none 0 0, .slice none 0 0] 73)).alloc (.cells #[.int .i8 0, .int .i8 0, .slice none 0 0, .slice none 0 0, .slice none 0 0] 73)) := by repeat (first | with_reducible exact Below.refl _ _ | (with_reducible refine kSet ?_ ?hB _; case hB => (simp; try omega)) | with_reducible refine kAlloc ?_ _ | with_reducible refine Below.drew ?_ | with_reducible refine kDrewN ?_ _ | with_reducible refine kTrans ?_ (by assumption))
  obtain ⟨W, hW⟩ : ∃ W, ((w.alloc (.cells #[.int .i8 wd, .int .i8 hi, v, v1, v2] 67)).alloc (.cells #[.int .i8 0, .int .i8 0, .slice none 0 0, .slice none 0 0, .slice none 0 0] 73)).alloc (.cells #[.int .i8 0, .int .i8 0, .slice none 0 0, .slice none 0 0, .slice none 0 0] 73) = W := ⟨_, rfl⟩
  rw [hW] at hk
  have bA : W.heap[w.heap.size]? = some (.cells #[.int .i8 wd, .int .i8 hi, v, v1, v2] 67 (0, 0)) := by
    rw [← hW]; exact mBlk_below (mNew _ _) (kAlloc (kAlloc (Below.refl _ _) _) _)
  have bR : W.heap[w.heap.size + 1]? = some (.cells #[.int .i8 0, .int .i8 0, .slice none 0 0, .slice none 0 0, .slice none 0 0] 73 (0, 0)) := by
    rw [← hW]
    have h := mNew (w.alloc (.cells #[.int .i8 wd, .int .i8 hi, v, v1, v2] 67)) (.cells #[.int .i8 0, .int .i8 0, .slice none 0 0, .slice none 0 0, .slice none 0 0] 73)
    simp only [World.size_alloc] at h
    exact mBlk_below h (kAlloc (Below.refl _ _) _)
  have bX : W.heap[w.heap.size + 2]? = some (.cells #[.int .i8 0, .int .i8 0, .slice none 0 0, .slice none 0 0, .slice none 0 0] 73 (0, 0)) := by
    rw [← hW]
    have h := mNew ((w.alloc (.cells #[.int .i8 wd, .int .i8 hi, v, v1, v2] 67)).alloc (.cells #[.int .i8 0, .int .i8 0, .slice none 0 0, .slice none 0 0, .slice none 0 0] 73)) (.cells #[.int .i8 0, .int .i8 0, .slice none 0 0, .slice none 0 0, .slice none 0 0] 73)
    simpa only [World.size_alloc] using h
  have hWs := hk.size
  have hW3 := mBlk_lt bX
  have H0 := Lib.hid (mSl h hk)
  have H1 := Lib.hid h1
  have H2 := Lib.hid h2
  obtain ⟨va, vc, rfl⟩ := sl_val h
  obtain ⟨va1, vc1, rfl⟩ := slPo_val h1
  obtain ⟨va2, vc2, rfl⟩ := slCl_val h2
  have HW := Lib.hid hW
  have BR := Lib.hid bR
  have BX := Lib.hid bX
  obtain ⟨a0, a1, a2, a3, a4⟩ := McAt.of bA
  have BA := Lib.hid bA
  clear h h1 h2 hW hZ bA bR bX
  go_enter Tryd.func34, Tryd.ntmps34
  go_upto_region 2 with fail
  rw [HW.out]
  go_wp2_with fail
  refine (toBoard_fr wd hi _ l _ H0.out m0).mono ?_
  rintro e w1 ⟨k, rfl, fz0, z0, p0, y0, hb1⟩
  have x1 := mBlk_below BX.out hb1
  have c0 : w1.cell? ⟨w.heap.size + 2, 0, none⟩ = some (.int .i8 0) := cell_of_row _ _ 0 _ _ _ x1
  have c1 : w1.cell? ⟨w.heap.size + 2, 1, none⟩ = some (.int .i8 0) := cell_of_row _ _ 1 _ _ _ x1
  have c2 : w1.cell? ⟨w.heap.size + 2, 2, none⟩ = some (.slice none 0 0) := cell_of_row _ _ 2 _ _ _ x1
  have cf : ∀ j, w1.frozen? ⟨w.heap.size + 2, j, none⟩ = false := fun j => frozen_of_row _ _ j _ _ x1
  have hs1 := hb1.size
  obtain ⟨V1, hV1⟩ : ∃ V1, ((w1.setCell ⟨w.heap.size + 2, 0, none⟩ (.int .i8 wd)).setCell ⟨w.heap.size + 2, 1, none⟩ (.int .i8 hi)).setCell ⟨w.heap.size + 2, 2, none⟩ (.slice (some ⟨k, 0, none⟩) l.length l.length) = V1 := ⟨_, rfl⟩
  have X1 : Hid (V1.heap[w.heap.size + 2]? = some (.cells #[.int .i8 wd, .int .i8 hi, .slice (some ⟨k, 0, none⟩) l.length l.length, .slice none 0 0, .slice none 0 0] 73 (0, 0))) := Lib.hid (by rw [← hV1]; exact mBlk_set (mBlk_set (mBlk_set x1)))
  have o1 : ∀ b, b ≠ w.heap.size + 2 → V1.heap[b]? = w1.heap[b]? := fun b hb => by rw [← hV1, Below.heap_setCell _ _ _ _ hb, Below.heap_setCell _ _ _ _ hb, Below.heap_setCell _ _ _ _ hb]
  have T1 : Below w.heap.size w V1 := by rw [← hV1]; exact kSet (kSet (kSet (kTrans hk hb1) (by show w.heap.size ≤ w.heap.size + 2; omega) _) (by show w.heap.size ≤ w.heap.size + 2; omega) _) (by show w.heap.size ≤ w.heap.size + 2; omega) _
  have sV1 : V1.heap.size = w1.heap.size := by rw [← hV1]; simp [World.setCell]
  have A1 := Lib.hid ((o1 w.heap.size (by omega)).trans (mBlk_below BA.out hb1))
  have R1 := Lib.hid ((o1 (w.heap.size + 1) (by omega)).trans (mBlk_below BR.out hb1))
  have P0 : Hid (PcsAt V1 k 0 l) := Lib.hid (fun i hi' => by
    have hc : ∀ j, V1.cell? ⟨k, j, none⟩ = w1.cell? ⟨k, j, none⟩ := fun j => World.cell?_of_block (w := w1) (o1 k (by omega))
    obtain ⟨e0, e1, e2, e3, e4⟩ := p0 i hi'
    exact ⟨(hc _).trans e0, (hc _).trans e1, (hc _).trans e2, (hc _).trans e3, (hc _).trans e4⟩)
  have F0 : Hid (∀ j, V1.frozen? ⟨k, j, none⟩ = false) := Lib.hid (fun j => (World.frozen?_of_block (w := w1) (o1 k (by omega))).trans (fz0 j))
  have k1 := Nat.lt_of_lt_of_le z0 (Nat.le_of_eq sV1.symm)
  have HV1 := Lib.hid hV1
  have H1a := Lib.hid (H1.out.below T1)
  clear p0 fz0 x1 o1 hV1 BR BX BA HW H0 H1 hb1
  go_upto_region 3 with fail
  rw [HV1.out]
  clear c0 c1 c2 cf a0 a1 a2 a3 a4 HV1
  obtain ⟨a0, a1, a2, a3, a4⟩ := McAt.of A1.out
  go_wp2_with fail
  refine (toPortS_any _ l1 _ H1a.out m1).mono ?_
  rintro e w2 ⟨rfl, p1, z1, fz1, hb2⟩
  have x2 := mBlk_below X1.out hb2
  have c3 : w2.cell? ⟨w.heap.size + 2, 3, none⟩ = some (.slice none 0 0) := cell_of_row _ _ 3 _ _ _ x2
  have cf : ∀ j, w2.frozen? ⟨w.heap.size + 2, j, none⟩ = false := fun j => frozen_of_row _ _ j _ _ x2
  have hs2 := hb2.size
  obtain ⟨K1, hK1⟩ : ∃ K1, V1.heap.size = K1 := ⟨_, rfl⟩
  rw [hK1] at p1 z1 hs2 fz1 ⊢
  obtain ⟨V2, hV2⟩ : ∃ V2, w2.setCell ⟨w.heap.size + 2, 3, none⟩ (.slice (some ⟨K1, 0, none⟩) l1.length l1.length) = V2 := ⟨_, rfl⟩
  have X2 : Hid (V2.heap[w.heap.size + 2]? = some (.cells #[.int .i8 wd, .int .i8 hi, .slice (some ⟨k, 0, none⟩) l.length l.length, .slice (some ⟨K1, 0, none⟩) l1.length l1.length, .slice none 0 0] 73 (0, 0))) := Lib.hid (by rw [← hV2]; exact mBlk_set x2)
  have o2 : ∀ b, b ≠ w.heap.size + 2 → V2.heap[b]? = w2.heap[b]? := fun b hb => by rw [← hV2, Below.heap_setCell _ _ _ _ hb]
  have T2 : Below w.heap.size w V2 := by rw [← hV2]; exact kSet (kTrans T1 hb2) (by show w.heap.size ≤ w.heap.size + 2; omega) _
  have sV2 : V2.heap.size = w2.heap.size := by rw [← hV2]; simp [World.setCell]
  have A2 := Lib.hid ((o2 w.heap.size (by omega)).trans (mBlk_below A1.out hb2))
  have R2 := Lib.hid ((o2 (w.heap.size + 1) (by omega)).trans (mBlk_below R1.out hb2))
  have P0' : Hid (PcsAt V2 k 0 l) := Lib.hid (fun i hi' => by
    have hc : ∀ j, V2.cell? ⟨k, j, none⟩ = w2.cell? ⟨k, j, none⟩ := fun j => World.cell?_of_block (w := w2) (o2 k (by omega))
    obtain ⟨e0, e1, e2, e3, e4⟩ := (P0.out.below hb2 k1) i hi'
    exact ⟨(hc _).trans e0, (hc _).trans e1, (hc _).trans e2, (hc _).trans e3, (hc _).trans e4⟩)
  have P1 : Hid (PosAt V2 K1 0 l1) := Lib.hid (fun i hi' => by
    have hc : ∀ j, V2.cell? ⟨K1, j, none⟩ = w2.cell? ⟨K1, j, none⟩ := fun j => World.cell?_of_block (w := w2) (o2 K1 (by omega))
    obtain ⟨e0, e1, e2⟩ := p1 i hi'
    exact ⟨(hc _).trans e0, (hc _).trans e1, (hc _).trans e2⟩)
  have F0' : Hid (∀ j, V2.frozen? ⟨k, j, none⟩ = false) := Lib.hid (fun j => ((World.frozen?_of_block (w := w2) (o2 k (by omega))).trans (hb2.frozen (p := ⟨k, j, none⟩) k1)).trans (F0.out j))
  have F1 : Hid (∀ j, V2.frozen? ⟨K1, j, none⟩ = false) := Lib.hid (fun j => (World.frozen?_of_block (w := w2) (o2 K1 (by omega))).trans (fz1 j))
  have HV2 := Lib.hid hV2
  have H2a := Lib.hid (H2.out.below T2)
  clear p1 fz1 F0 x2 o2 hV2 hb2 H1a H2 A1 R1 X1 P0
  go_upto_region 4 with fail
  rw [HV2.out]
  clear c3 cf a0 a1 a2 a3 a4 HV2
  obtain ⟨a0, a1, a2, a3, a4⟩ := McAt.of A2.out
  go_wp2_with fail
  refine (toCellS_any _ l2 _ H2a.out m2).mono ?_
  rintro e w3 ⟨rfl, p2, z2, fz2, hb3⟩
  have x3 := mBlk_below X2.out hb3
  have c4 : w3.cell? ⟨w.heap.size + 2, 4, none⟩ = some (.slice none 0 0) := cell_of_row _ _ 4 _ _ _ x3
  have cf : ∀ j, w3.frozen? ⟨w.heap.size + 2, j, none⟩ = false := fun j => frozen_of_row _ _ j _ _ x3
  have hs3 := hb3.size
  obtain ⟨K2, hK2⟩ : ∃ K2, V2.heap.size = K2 := ⟨_, rfl⟩
  rw [hK2] at p2 z2 hs3 fz2 ⊢
  obtain ⟨V3, hV3⟩ : ∃ V3, w3.setCell ⟨w.heap.size + 2, 4, none⟩ (.slice (some ⟨K2, 0, none⟩) l2.length l2.length) = V3 := ⟨_, rfl⟩
  have X3 : Hid (V3.heap[w.heap.size + 2]? = some (.cells #[.int .i8 wd, .int .i8 hi, .slice (some ⟨k, 0, none⟩) l.length l.length, .slice (some ⟨K1, 0, none⟩) l1.length l1.length, .slice (some ⟨K2, 0, none⟩) l2.length l2.length] 73 (0, 0))) := Lib.hid (by rw [← hV3]; exact mBlk_set x3)
  have o3 : ∀ b, b ≠ w.heap.size + 2 → V3.heap[b]? = w3.heap[b]? := fun b hb => by rw [← hV3, Below.heap_setCell _ _ _ _ hb]
  have T3 : Below w.heap.size w V3 := by rw [← hV3]; exact kSet (kTrans T2 hb3) (by show w.heap.size ≤ w.heap.size + 2; omega) _
  have sV3 : V3.heap.size = w3.heap.size := by rw [← hV3]; simp [World.setCell]
  have R3 := Lib.hid ((o3 (w.heap.size + 1) (by omega)).trans (mBlk_below R2.out hb3))
  have P0'' : Hid (PcsAt V3 k 0 l) := Lib.hid (fun i hi' => by
    have hc : ∀ j, V3.cell? ⟨k, j, none⟩ = w3.cell? ⟨k, j, none⟩ := fun j => World.cell?_of_block (w := w3) (o3 k (by omega))
    obtain ⟨e0, e1, e2, e3, e4⟩ := (P0'.out.below hb3 (by omega)) i hi'
    exact ⟨(hc _).trans e0, (hc _).trans e1, (hc _).trans e2, (hc _).trans e3, (hc _).trans e4⟩)
  have P1' : Hid (PosAt V3 K1 0 l1) := Lib.hid (fun i hi' => by
    have hc : ∀ j, V3.cell? ⟨K1, j, none⟩ = w3.cell? ⟨K1, j, none⟩ := fun j => World.cell?_of_block (w := w3) (o3 K1 (by omega))
    obtain ⟨e0, e1, e2⟩ := (P1.out.below hb3 (by omega)) i hi'
    exact ⟨(hc _).trans e0, (hc _).trans e1, (hc _).trans e2⟩)
  have P2 : Hid (ClsAt V3 K2 0 l2) := Lib.hid (fun i hi' => by
    have hc : ∀ j, V3.cell? ⟨K2, j, none⟩ = w3.cell? ⟨K2, j, none⟩ := fun j => World.cell?_of_block (w := w3) (o3 K2 (by omega))
    obtain ⟨e0, e1⟩ := p2 i hi'
    exact ⟨(hc _).trans e0, (hc _).trans e1⟩)
  have F0'' : Hid (∀ j, V3.frozen? ⟨k, j, none⟩ = false) := Lib.hid (fun j => ((World.frozen?_of_block (w := w3) (o3 k (by omega))).trans (hb3.frozen (p := ⟨k, j, none⟩) (by show k < _; omega))).trans (F0'.out j))
  have F1' : Hid (∀ j, V3.frozen? ⟨K1, j, none⟩ = false) := Lib.hid (fun j => ((World.frozen?_of_block (w := w3) (o3 K1 (by omega))).trans (hb3.frozen (p := ⟨K1, j, none⟩) (by show K1 < _; omega))).trans (F1.out j))
  have F2 : Hid (∀ j, V3.frozen? ⟨K2, j, none⟩ = false) := Lib.hid (fun j => (World.frozen?_of_block (w := w3) (o3 K2 (by omega))).trans (fz2 j))
  have HV3 := Lib.hid hV3
  clear p2 fz2 F0' F1 x3 o3 hV3 hb3 H2a A2 R2 X2 P0' P1
  go_upto_region 5 with fail
  rw [HV3.out]
  clear c4 cf a0 a1 a2 a3 a4 HV3
  obtain ⟨a0, a1, a2, a3, a4⟩ := McAt.of X3.out
  have rs := R3.out
  go_wp2_with (refine wpList_store_row rfl 73 _ _ rfl (w.heap.size + 1) #[.int .i8 wd, .int .i8 hi, .slice (some ⟨k, 0, none⟩) l.length l.length, .slice (some ⟨K1, 0, none⟩) l1.length l1.length, .slice (some ⟨K2, 0, none⟩) l2.length l2.length] rfl rfl 73 _ rs (by kernel_rfl) (by kernel_rfl) (by kernel_rfl) ?_)
  refine bodyPost_ret (v := .agg #[.int .i8 wd, .int .i8 hi, .slice (some ⟨k, 0, none⟩) l.length l.length, .slice (some ⟨K1, 0, none⟩) l1.length l1.length, .slice (some ⟨K2, 0, none⟩) l2.length l2.length]) (results_cell_row rfl _ _ (w.heap.size + 1) 73 #[.int .i8 wd, .int .i8 hi, .slice (some ⟨k, 0, none⟩) l.length l.length, .slice (some ⟨K1, 0, none⟩) l1.length l1.length, .slice (some ⟨K2, 0, none⟩) l2.length l2.length] (0, 0) _ rfl (setRow_heap _ _ _ _ _ _ rs) Tryd.underlying73 rfl (by kernel_rfl)) rfl ?_
  have hne : ∀ b, b ≠ w.heap.size + 1 → ∀ j, (V3.setRow (w.heap.size + 1) #[.int .i8 wd, .int .i8 hi, .slice (some ⟨k, 0, none⟩) l.length l.length, .slice (some ⟨K1, 0, none⟩) l1.length l1.length, .slice (some ⟨K2, 0, none⟩) l2.length l2.length]).cell? ⟨b, j, none⟩ = V3.cell? ⟨b, j, none⟩ := fun b hb j => World.cell?_of_block (w := V3) (setRow_other _ _ _ _ hb)
  have hsz : (V3.setRow (w.heap.size + 1) #[.int .i8 wd, .int .i8 hi, .slice (some ⟨k, 0, none⟩) l.length l.length, .slice (some ⟨K1, 0, none⟩) l1.length l1.length, .slice (some ⟨K2, 0, none⟩) l2.length l2.length]).heap.size = V3.heap.size := by simp [World.setRow]
  have hnf : ∀ b, b ≠ w.heap.size + 1 → ∀ j, (V3.setRow (w.heap.size + 1) #[.int .i8 wd, .int .i8 hi, .slice (some ⟨k, 0, none⟩) l.length l.length, .slice (some ⟨K1, 0, none⟩) l1.length l1.length, .slice (some ⟨K2, 0, none⟩) l2.length l2.length]).frozen? ⟨b, j, none⟩ = V3.frozen? ⟨b, j, none⟩ := fun b hb j => World.frozen?_of_block (w := V3) (setRow_other _ _ _ _ hb)
  refine ⟨k, K1, K2, rfl, ⟨fun i hi' => ?_, fun i hi' => ?_, fun i hi' => ?_, fun j => (hnf _ (by omega) j).trans (F0''.out j), fun j => (hnf _ (by omega) j).trans (F1'.out j), fun j => (hnf _ (by omega) j).trans (F2.out j), by omega, by omega, by omega, by rw [hsz]; omega, by rw [hsz]; omega, by rw [hsz]; omega, Nat.le_refl _, by omega, by omega⟩, mRow T3 (by omega) _⟩
  · obtain ⟨e0, e1, e2, e3, e4⟩ := P0''.out i hi'
    exact ⟨(hne _ (by omega) _).trans e0, (hne _ (by omega) _).trans e1, (hne _ (by omega) _).trans e2, (hne _ (by omega) _).trans e3, (hne _ (by omega) _).trans e4⟩
  · obtain ⟨e0, e1, e2⟩ := P1'.out i hi'
    exact ⟨(hne _ (by omega) _).trans e0, (hne _ (by omega) _).trans e1, (hne _ (by omega) _).trans e2⟩
  · obtain ⟨e0, e1⟩ := P2.out i hi'
    exact ⟨(hne _ (by omega) _).trans e0, (hne _ (by omega) _).trans e1⟩
end Go.Proofs.YtmllfacgonchnaaDoor
