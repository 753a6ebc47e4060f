/- Networks: inputs, nodes, outputs: the laws' own functions on them; the reading of an argument; packages. -/
import Derived.Test.YtlbnhdnmcnfgdaaDoorNdk
import Derived.Test.YtlbnhdnmcnfgdaaDoorSh
import Derived.Outline
import Derived.Deep.DeepCutAuto
namespace Go.Proofs.YtlbnhdnmcnfgdaaDoor
open Go.ChangeShapes Go.WideShapes Go.ChangeAt Go.RowKit Go.Joins Go.Deep
set_option linter.unusedVariables false
set_option linter.unusedSimpArgs false

theorem nBlk_set {w : World} {b i : Nat} {cs : Array Value} {t : TypeId} {fr : Nat × Nat} {v : Value} (h : w.heap[b]? = some (.cells cs t fr)) : (w.setCell ⟨b, i, none⟩ v).heap[b]? = some (.cells (cs.setIfInBounds i v) t fr) := by
  simp [World.setCell, Array.getElem?_modify, h]
theorem nNew (w : World) (o : Obj) : (w.alloc o).heap[w.heap.size]? = some o := by
  show (w.heap.push o)[w.heap.size]? = _
  simp
/-- the cells of a network -/
def NwAt (w : World) (b : Nat) (ni : Int) (v t : Value) : Prop :=
  w.cell? ⟨b, 0, none⟩ = some (.int .i8 ni) ∧ w.cell? ⟨b, 1, none⟩ = some v ∧ w.cell? ⟨b, 2, none⟩ = some t
theorem NwAt.below {W w' : World} {b : Nat} {ni : Int} {v t : Value} (h : NwAt W b ni v t) (hb : Below W.heap.size W w') (hl : b < W.heap.size) : NwAt w' b ni v t :=
  ⟨(hb.cell (p := ⟨b, _, none⟩) hl).trans h.1, (hb.cell (p := ⟨b, _, none⟩) hl).trans h.2.1, (hb.cell (p := ⟨b, _, none⟩) hl).trans h.2.2⟩
theorem NwAt.of {w : World} {b : Nat} {ni : Int} {v u : Value} {t : TypeId} (h : w.heap[b]? = some (.cells #[.int .i8 ni, v, u] t (0, 0))) : NwAt w b ni v u :=
  ⟨cell_of_row _ _ 0 _ _ _ h, cell_of_row _ _ 1 _ _ _ h, cell_of_row _ _ 2 _ _ _ h⟩
theorem NwAt.box (w : World) (ni : Int) (v u : Value) (t : TypeId) : NwAt (w.alloc (.cells #[.int .i8 ni, v, u] t)) w.heap.size ni v u := NwAt.of (nNew _ _)
theorem NwAt.lt {w : World} {b : Nat} {ni : Int} {v t : Value} (h : NwAt w b ni v t) : b < w.heap.size := World.block_lt_of_cell? w _ h.1
theorem slNd_val {w : World} {l : List Nd} {v : Value} (h : SlNd w l v) : ∃ a c, v = .slice a l.length c := by
  cases h with
  | empty a cap h => exact ⟨a, cap, by rw [h]; rfl⟩
  | mk b o cap _ _ _ => exact ⟨_, cap, rfl⟩
theorem slSh_val {w : World} {l : List Int} {v : Value} (h : SlSh w l v) : ∃ a c, v = .slice a l.length c := by
  cases h with
  | empty a cap h => exact ⟨a, cap, by rw [h]; rfl⟩
  | mk b o cap _ _ _ => exact ⟨_, cap, rfl⟩
set_option maxRecDepth 100000 in
set_option maxHeartbeats 2000000 in
theorem szNetwork_any (ni : Int) (v t : Value) (l : List Nd) (p : List Int) (w : World) (h : SlNd w l v) (h1 : SlSh w p t) (left : Int) (e0 : l.length ≤ 9223372036854775807) (e1 : p.length ≤ 9223372036854775807) (b0 : 0 ≤ left) (b1 : left ≤ 1048576) :
    Calls Tryd.prog 6 #[.agg #[.int .i8 ni, v, t], .int .i64 left] w fun e w' => e = .returned (.int .i64 (if left - l.length - p.length < 0 then -1 else left - l.length - p.length)) ∧ Below w.heap.size w w' := by
  have hk : Below w.heap.size w (w.alloc (.cells #[.int .i8 ni, v, t] 26)) := by repeat (first | with_reducible exact Below.refl _ _ | (with_reducible refine kSet ?_ ?hB _; case hB => (simp; try omega)) | with_reducible refine kAlloc ?_ _ | with_reducible refine Below.drew ?_ | with_reducible refine kDrewN ?_ _ | with_reducible refine kTrans ?_ (by assumption))
  have bx := NwAt.box w ni v t 26
  have H0 := Lib.hid (h.below hk)
  have H1 := Lib.hid (h1.below hk)
  obtain ⟨a, c, rfl⟩ := slNd_val h
  obtain ⟨a1, c1, rfl⟩ := slSh_val h1
  clear h h1
  by_cases g0 : left - (l.length : Int) < 0
  · rw [if_pos (by omega)]
    clear bx
    go_enter Tryd.func6, Tryd.ntmps6
    go_wp2_with fail
    refine (szNodeS_any _ l _ H0.out left e0 b0 b1).mono ?_
    rw [if_pos (by omega)]
    rintro e w1 ⟨rfl, rfl⟩
    go_wp2
    go_ret
    exact ⟨rfl, by repeat (first | with_reducible exact Below.refl _ _ | (with_reducible refine kSet ?_ ?hB _; case hB => (simp; try omega)) | with_reducible refine kAlloc ?_ _ | with_reducible refine Below.drew ?_ | with_reducible refine kDrewN ?_ _ | with_reducible refine kTrans ?_ (by assumption))⟩
  · have g0' : ¬ left < (l.length : Int) := by omega
    obtain ⟨c0, c1', c2'⟩ := bx
    by_cases g1 : left - (l.length : Int) - (p.length : Int) < 0
    · rw [if_pos (by omega)]
      go_enter Tryd.func6, Tryd.ntmps6
      go_wp2_with fail
      refine (szNodeS_any _ l _ H0.out left e0 b0 b1).mono ?_
      rw [if_neg (by omega)]
      rintro e w1 ⟨rfl, rfl⟩
      go_wp2_with fail
      refine (szInt16S_any _ p _ H1.out _ e1 (by omega) (by omega)).mono ?_
      rw [if_pos (by omega)]
      rintro e w2 ⟨rfl, rfl⟩
      go_wp2
      go_ret
      exact ⟨rfl, by repeat (first | with_reducible exact Below.refl _ _ | (with_reducible refine kSet ?_ ?hB _; case hB => (simp; try omega)) | with_reducible refine kAlloc ?_ _ | with_reducible refine Below.drew ?_ | with_reducible refine kDrewN ?_ _ | with_reducible refine kTrans ?_ (by assumption))⟩
    · rw [if_neg (by omega)]
      have g1' : ¬ left - (l.length : Int) < (p.length : Int) := by omega
      go_enter Tryd.func6, Tryd.ntmps6
      go_wp2_with fail
      refine (szNodeS_any _ l _ H0.out left e0 b0 b1).mono ?_
      rw [if_neg (by omega)]
      rintro e w1 ⟨rfl, rfl⟩
      go_wp2_with fail
      refine (szInt16S_any _ p _ H1.out _ e1 (by omega) (by omega)).mono ?_
      rw [if_neg (by omega)]
      rintro e w2 ⟨rfl, rfl⟩
      go_wp2
      go_ret
      exact ⟨rfl, by repeat (first | with_reducible exact Below.refl _ _ | (with_reducible refine kSet ?_ ?hB _; case hB => (simp; try omega)) | with_reducible refine kAlloc ?_ _ | with_reducible refine Below.drew ?_ | with_reducible refine kDrewN ?_ _ | with_reducible refine kTrans ?_ (by assumption))⟩
/-- two slices of a network, each in a block of its own, that the holder may write -/
structure OwnN (lo hi : Nat) (w : World) (b k : Nat) (l : List Nd) (p : List Int) : Prop where
  p0 : NdsAt w b 0 l
  p1 : ShsAt w k 0 p
  f0 : ∀ j, w.frozen? ⟨b, j, none⟩ = false
  f1 : ∀ j, w.frozen? ⟨k, j, none⟩ = false
  g0 : lo ≤ b
  g1 : b < k
  h0 : b < w.heap.size
  h1 : k < w.heap.size
  hh : hi ≤ w.heap.size
  hb : k < hi
  hl : lo ≤ hi
theorem OwnN.below {lo hi b k : Nat} {w w' : World} {l : List Nd} {p : List Int} (h : OwnN lo hi w b k l p) (g : Below w.heap.size w w') : OwnN lo hi w' b k l p :=
  ⟨h.p0.below g h.h0, h.p1.below g h.h1, fun j => (g.frozen (p := ⟨b, j, none⟩) h.h0).trans (h.f0 j), fun j => (g.frozen (p := ⟨k, j, none⟩) h.h1).trans (h.f1 j), h.g0, h.g1,
    Nat.lt_of_lt_of_le h.h0 g.size, Nat.lt_of_lt_of_le h.h1 g.size, Nat.le_trans h.hh g.size, h.hb, h.hl⟩
theorem OwnN.out {lo hi lo2 hi2 b k : Nat} {w w' : World} {l : List Nd} {p : List Int} (h : OwnN lo hi w b k l p) (g : KeptOut lo2 hi2 w w') (ho : hi ≤ lo2 ∨ hi2 ≤ lo) : OwnN lo hi w' b k l p := by
  have g0 := h.g0
  have g1 := h.g1
  have gb := h.hb
  exact ⟨h.p0.out g h.h0 (by omega), h.p1.out g h.h1 (by omega), fun j => (g.frozen h.h0 (by omega)).trans (h.f0 j), fun j => (g.frozen h.h1 (by omega)).trans (h.f1 j), h.g0, h.g1,
    Nat.lt_of_lt_of_le h.h0 g.size, Nat.lt_of_lt_of_le h.h1 g.size, Nat.le_trans h.hh g.size, h.hb, h.hl⟩
set_option maxRecDepth 100000 in
set_option maxHeartbeats 4000000 in
theorem toNetwork_own (ni : Int) (v t : Value) (l : List Nd) (p : List Int) (w : World) (h : SlNd w l v) (h1 : SlSh w p t) (m0 : l.length ≤ 1048576) (m1 : p.length ≤ 1048576) :
    Calls Tryd.prog 8 #[.agg #[.int .i8 ni, v, t]] w fun e w' => ∃ b k, e = .returned (.agg #[.int .i8 ni, .slice (some ⟨b, 0, none⟩) l.length l.length, .slice (some ⟨k, 0, none⟩) p.length p.length]) ∧ OwnN w.heap.size w'.heap.size w' b k l p ∧ Below w.heap.size w w' := by
  have hk : Below w.heap.size w (((w.alloc (.cells #[.int .i8 ni, v, t] 26)).alloc (.cells #[.int .i8 0, .slice none 0 0, .slice none 0 0] 32)).alloc (.cells #[.int .i8 0, .slice none 0 0, .slice none 0 0] 32)) := by repeat (first | with_reducible exact Below.refl _ _ | (with_reducible refine kSet ?_ ?hB _; case hB => (simp; try omega)) | with_reducible refine kAlloc ?_ _ | with_reducible refine Below.drew ?_ | with_reducible refine kDrewN ?_ _ | with_reducible refine kTrans ?_ (by assumption))
  obtain ⟨W, hW⟩ : ∃ W, ((w.alloc (.cells #[.int .i8 ni, v, t] 26)).alloc (.cells #[.int .i8 0, .slice none 0 0, .slice none 0 0] 32)).alloc (.cells #[.int .i8 0, .slice none 0 0, .slice none 0 0] 32) = W := ⟨_, rfl⟩
  rw [hW] at hk
  have bA : W.heap[w.heap.size]? = some (.cells #[.int .i8 ni, v, t] 26 (0, 0)) := by
    rw [← hW]; exact blk_below (nNew _ _) (kAlloc (kAlloc (Below.refl _ _) _) _)
  have bR : W.heap[w.heap.size + 1]? = some (.cells #[.int .i8 0, .slice none 0 0, .slice none 0 0] 32 (0, 0)) := by
    rw [← hW]
    have h := nNew (w.alloc (.cells #[.int .i8 ni, v, t] 26)) (.cells #[.int .i8 0, .slice none 0 0, .slice none 0 0] 32)
    simp only [World.size_alloc] at h
    exact blk_below h (kAlloc (Below.refl _ _) _)
  have bX : W.heap[w.heap.size + 2]? = some (.cells #[.int .i8 0, .slice none 0 0, .slice none 0 0] 32 (0, 0)) := by
    rw [← hW]
    have h := nNew ((w.alloc (.cells #[.int .i8 ni, v, t] 26)).alloc (.cells #[.int .i8 0, .slice none 0 0, .slice none 0 0] 32)) (.cells #[.int .i8 0, .slice none 0 0, .slice none 0 0] 32)
    simpa only [World.size_alloc] using h
  have hWs := hk.size
  have hW3 := blk_lt bX
  obtain ⟨W1, hW1⟩ : ∃ W1, W.setCell ⟨w.heap.size + 2, 0, none⟩ (.int .i8 ni) = W1 := ⟨_, rfl⟩
  have hk1 : Below w.heap.size w W1 := by rw [← hW1]; exact kSet hk (by show w.heap.size ≤ w.heap.size + 2; omega) _
  have H0 := Lib.hid (h.below hk1)
  have H1 := Lib.hid h1
  obtain ⟨va, vc, rfl⟩ := slNd_val h
  obtain ⟨va1, vc1, rfl⟩ := slSh_val h1
  have HW := Lib.hid hW
  have HW1 := Lib.hid hW1
  have sz1 : W1.heap.size = W.heap.size := by rw [← hW1]; simp [World.setCell]
  have BR := Lib.hid (show W1.heap[w.heap.size + 1]? = some (.cells #[.int .i8 0, .slice none 0 0, .slice none 0 0] 32 (0, 0)) by rw [← hW1]; exact blk_set bR (by show _ ≠ w.heap.size + 2; omega))
  have BX := Lib.hid (show W1.heap[w.heap.size + 2]? = some (.cells #[.int .i8 ni, .slice none 0 0, .slice none 0 0] 32 (0, 0)) by rw [← hW1]; exact nBlk_set bX)
  have BA := Lib.hid (show W1.heap[w.heap.size]? = some (.cells #[.int .i8 ni, .slice va l.length vc, .slice va1 p.length vc1] 26 (0, 0)) by rw [← hW1]; exact blk_set bA (by show _ ≠ w.heap.size + 2; omega))
  obtain ⟨a0, a1, a2⟩ := NwAt.of bA
  obtain ⟨x0, x1, x2⟩ := NwAt.of bX
  have xf : ∀ j, W.frozen? ⟨w.heap.size + 2, j, none⟩ = false := fun j => frozen_of_row _ _ j _ _ bX
  clear h h1 hW hW1 bA bR bX
  go_enter Tryd.func8, Tryd.ntmps8
  go_upto_region 2 with fail
  try rw [HW.out]
  go_wp2_with fail
  try rw [HW1.out]
  refine (toNodeS_any _ l _ H0.out m0).mono ?_
  rintro e w1 ⟨rfl, p0, z0, f0, hb1⟩
  rw [sz1] at p0 z0 f0 ⊢
  clear a0 a1 a2 x0 x1 x2 xf HW HW1 H0
  have hs1 := hb1.size
  rw [sz1] at hs1
  have X1 := blk_below BX.out hb1
  have R1 := blk_below BR.out hb1
  have A1 := blk_below BA.out hb1
  have T1 := kTrans hk1 hb1
  have H1a := Lib.hid (H1.out.below T1)
  obtain ⟨K0, hK0⟩ : ∃ K0, W.heap.size = K0 := ⟨_, rfl⟩
  rw [hK0] at p0 z0 f0 hs1 hW3 ⊢
  obtain ⟨W2, hW2⟩ : ∃ W2, w1.setCell ⟨w.heap.size + 2, 1, none⟩ (.slice (some ⟨K0, 0, none⟩) l.length l.length) = W2 := ⟨_, rfl⟩
  have o2 : ∀ b, b ≠ w.heap.size + 2 → W2.heap[b]? = w1.heap[b]? := fun b hb => by rw [← hW2, Below.heap_setCell _ _ _ _ hb]
  have X2 := Lib.hid (show W2.heap[w.heap.size + 2]? = some (.cells #[.int .i8 ni, .slice (some ⟨K0, 0, none⟩) l.length l.length, .slice none 0 0] 32 (0, 0)) by rw [← hW2]; exact nBlk_set X1)
  have R2 := Lib.hid ((o2 (w.heap.size + 1) (by omega)).trans R1)
  have sW2 : W2.heap.size = w1.heap.size := by rw [← hW2]; simp [World.setCell]
  have T2 : Below w.heap.size w W2 := by rw [← hW2]; exact kSet T1 (by show w.heap.size ≤ w.heap.size + 2; omega) _
  have k2 : Hid (∀ j, W2.cell? ⟨K0, j, none⟩ = w1.cell? ⟨K0, j, none⟩) := Lib.hid (fun j => World.cell?_of_block (w := w1) (o2 K0 (by omega)))
  have P0 : Hid (NdsAt W2 K0 0 l) := Lib.hid (fun i hi' => by
    obtain ⟨e0, e1, e2⟩ := p0 i hi'
    exact ⟨(k2.out _).trans e0, (k2.out _).trans e1, (k2.out _).trans e2⟩)
  have F0 : Hid (∀ j, W2.frozen? ⟨K0, j, none⟩ = false) := Lib.hid (fun j => (World.frozen?_of_block (w := w1) (o2 K0 (by omega))).trans (f0 j))
  have H2a := Lib.hid (H1.out.below T2)
  have HW2 := Lib.hid hW2
  obtain ⟨a0, a1, a2⟩ := NwAt.of A1
  obtain ⟨x0, x1, x2⟩ := NwAt.of X1
  have xf : ∀ j, w1.frozen? ⟨w.heap.size + 2, j, none⟩ = false := fun j => frozen_of_row _ _ j _ _ X1
  clear p0 f0 hW2 o2 k2 hb1 H1 H1a R1 A1 X1
  go_wp2_with fail
  try rw [HW2.out]
  refine (toInt16S_any _ p _ H2a.out m1).mono ?_
  rintro e w3 ⟨rfl, p1, z1, f1, hb3⟩
  clear a0 a1 a2 x0 x1 x2 xf HW2 H2a
  have hs3 := hb3.size
  obtain ⟨K1, hK1⟩ : ∃ K1, W2.heap.size = K1 := ⟨_, rfl⟩
  have kk : K0 < K1 := by omega
  rw [hK1] at p1 z1 f1 hs3 ⊢
  clear sW2
  have X3 := blk_below X2.out hb3
  have R3 := blk_below R2.out hb3
  have zK : K0 < W2.heap.size := by rw [hK1]; omega
  obtain ⟨W4, hW4⟩ : ∃ W4, w3.setCell ⟨w.heap.size + 2, 2, none⟩ (.slice (some ⟨K1, 0, none⟩) p.length p.length) = W4 := ⟨_, rfl⟩
  have o4 : ∀ b, b ≠ w.heap.size + 2 → W4.heap[b]? = w3.heap[b]? := fun b hb => by rw [← hW4, Below.heap_setCell _ _ _ _ hb]
  have X4 := Lib.hid (show W4.heap[w.heap.size + 2]? = some (.cells #[.int .i8 ni, .slice (some ⟨K0, 0, none⟩) l.length l.length, .slice (some ⟨K1, 0, none⟩) p.length p.length] 32 (0, 0)) by rw [← hW4]; exact nBlk_set X3)
  have R4 := Lib.hid ((o4 (w.heap.size + 1) (by omega)).trans R3)
  have sW4 : W4.heap.size = w3.heap.size := by rw [← hW4]; simp [World.setCell]
  have T4 : Below w.heap.size w W4 := by rw [← hW4]; exact kSet (kTrans T2 hb3) (by show w.heap.size ≤ w.heap.size + 2; omega) _
  have k4 : ∀ b, b ≠ w.heap.size + 2 → ∀ j, W4.cell? ⟨b, j, none⟩ = w3.cell? ⟨b, j, none⟩ := fun b hb j => World.cell?_of_block (w := w3) (o4 b hb)
  have P0' : Hid (NdsAt W4 K0 0 l) := Lib.hid (fun i hi' => by
    obtain ⟨e0, e1, e2⟩ := (P0.out.below hb3 zK) i hi'
    exact ⟨(k4 K0 (by omega) _).trans e0, (k4 K0 (by omega) _).trans e1, (k4 K0 (by omega) _).trans e2⟩)
  have F0' : Hid (∀ j, W4.frozen? ⟨K0, j, none⟩ = false) := Lib.hid (fun j => ((World.frozen?_of_block (w := w3) (o4 K0 (by omega))).trans (hb3.frozen (p := ⟨K0, j, none⟩) zK)).trans (F0.out j))
  have P1 : Hid (ShsAt W4 K1 0 p) := Lib.hid (fun i hi' => (k4 K1 (by omega) _).trans (p1 i hi'))
  have F1 : Hid (∀ j, W4.frozen? ⟨K1, j, none⟩ = false) := Lib.hid (fun j => (World.frozen?_of_block (w := w3) (o4 K1 (by omega))).trans (f1 j))
  have HW4 := Lib.hid hW4
  have zz4 : K1 < W4.heap.size := by omega
  have sW4' := Lib.hid sW4
  clear sW4
  obtain ⟨x0, x1, x2⟩ := NwAt.of X3
  have xf : ∀ j, w3.frozen? ⟨w.heap.size + 2, j, none⟩ = false := fun j => frozen_of_row _ _ j _ _ X3
  clear p1 f1 hW4 o4 k4 hb3 P0 F0 R3 X3 R2 X2
  go_upto_region 5 with fail
  try rw [HW4.out]
  clear x0 x1 x2 xf HW4
  obtain ⟨x0, x1, x2⟩ := NwAt.of X4.out
  have rs := R4.out
  go_wp2_with (refine wpList_store_row rfl 32 _ _ rfl (w.heap.size + 1) #[.int .i8 ni, .slice (some ⟨K0, 0, none⟩) l.length l.length, .slice (some ⟨K1, 0, none⟩) p.length p.length] rfl rfl 32 _ rs (by kernel_rfl) (by kernel_rfl) (by kernel_rfl) ?_)
  refine bodyPost_ret (v := .agg #[.int .i8 ni, .slice (some ⟨K0, 0, none⟩) l.length l.length, .slice (some ⟨K1, 0, none⟩) p.length p.length]) (results_cell_row rfl _ _ (w.heap.size + 1) 32 #[.int .i8 ni, .slice (some ⟨K0, 0, none⟩) l.length l.length, .slice (some ⟨K1, 0, none⟩) p.length p.length] (0, 0) _ rfl (setRow_heap _ _ _ _ _ _ rs) Tryd.underlying32 rfl (by kernel_rfl)) rfl ?_
  have sW4 := sW4'.out
  have hne : ∀ b, b ≠ w.heap.size + 1 → ∀ j, (W4.setRow (w.heap.size + 1) #[.int .i8 ni, .slice (some ⟨K0, 0, none⟩) l.length l.length, .slice (some ⟨K1, 0, none⟩) p.length p.length]).cell? ⟨b, j, none⟩ = W4.cell? ⟨b, j, none⟩ := fun b hb j => World.cell?_of_block (w := W4) (setRow_other _ _ _ _ hb)
  have hnf : ∀ b, b ≠ w.heap.size + 1 → ∀ j, (W4.setRow (w.heap.size + 1) #[.int .i8 ni, .slice (some ⟨K0, 0, none⟩) l.length l.length, .slice (some ⟨K1, 0, none⟩) p.length p.length]).frozen? ⟨b, j, none⟩ = W4.frozen? ⟨b, j, none⟩ := fun b hb j => World.frozen?_of_block (w := W4) (setRow_other _ _ _ _ hb)
  have hsz : (W4.setRow (w.heap.size + 1) #[.int .i8 ni, .slice (some ⟨K0, 0, none⟩) l.length l.length, .slice (some ⟨K1, 0, none⟩) p.length p.length]).heap.size = W4.heap.size := by simp [World.setRow]
  refine ⟨K0, K1, rfl, ⟨fun i hi' => ?_, fun i hi' => ?_, fun j => (hnf _ (by omega) j).trans (F0'.out j), fun j => (hnf _ (by omega) j).trans (F1.out j), by omega, by omega, by rw [hsz]; omega, by rw [hsz]; omega, Nat.le_refl _, by omega, by omega⟩, kRowW T4 (by omega) _⟩
  · obtain ⟨e0, e1, e2⟩ := P0'.out i hi'
    exact ⟨(hne _ (by omega) _).trans e0, (hne _ (by omega) _).trans e1, (hne _ (by omega) _).trans e2⟩
  · exact (hne _ (by omega) _).trans (P1.out i hi')
set_option maxRecDepth 100000 in
set_option maxHeartbeats 2000000 in
theorem eqNetwork_any (ni : Int) (va va1 vb vb1 : Value) (l : List Nd) (p : List Int) (w : World) (ha : SlNd w l va) (ha1 : SlSh w p va1) (hb : SlNd w l vb) (hb1 : SlSh w p vb1) (h8 : NdsWf l) (h81 : ShsWf p) (m0 : l.length ≤ 1048576) (m1 : p.length ≤ 1048576) :
    Calls Tryd.prog 10 #[.agg #[.int .i8 ni, va, va1], .agg #[.int .i8 ni, vb, vb1]] w fun e w' => e = .returned (.bool true) ∧ Below w.heap.size w w' := by
  obtain ⟨W, hW⟩ : ∃ W, (w.alloc (.cells #[.int .i8 ni, va, va1] 32)).alloc (.cells #[.int .i8 ni, vb, vb1] 32) = W := ⟨_, rfl⟩
  have hk : Below w.heap.size w W := by rw [← hW]; exact kAlloc (kAlloc (Below.refl _ _) _) _
  have gA : NwAt W w.heap.size ni va va1 := by rw [← hW]; exact (NwAt.box w ni va va1 32).below (kAlloc (Below.refl _ _) _) (by simp)
  have gB : NwAt W (w.heap.size + 1) ni vb vb1 := by
    rw [← hW]
    have h := NwAt.box (w.alloc (.cells #[.int .i8 ni, va, va1] 32)) ni vb vb1 32
    simpa only [World.size_alloc] using h
  have HA := Lib.hid (ha.below hk)
  have HA1 := Lib.hid (ha1.below hk)
  have HB := Lib.hid (hb.below hk)
  have HB1 := Lib.hid (hb1.below hk)
  obtain ⟨a, ac, rfl⟩ := slNd_val ha
  obtain ⟨a1, ac1, rfl⟩ := slSh_val ha1
  obtain ⟨b, bc, rfl⟩ := slNd_val hb
  obtain ⟨b1, bc1, rfl⟩ := slSh_val hb1
  have GA := Lib.hid gA
  have GB := Lib.hid gB
  have HW := Lib.hid hW
  have H8 := Lib.hid h8
  have H81 := Lib.hid h81
  have la := gA.lt
  have lb := gB.lt
  obtain ⟨x0, x1, x2⟩ := gA
  obtain ⟨y0, y1, y2⟩ := gB
  clear ha ha1 hb hb1 h8 h81 hW
  go_enter Tryd.func10, Tryd.ntmps10
  go_upto_region 1 with fail
  try rw [HW.out]
  go_wp2_with fail
  try (go_quiet (fail))
  try go_wp2_with fail
  refine (eqNodeS_any _ _ l _ (HA.out.below (by repeat (first | with_reducible exact Below.refl _ _ | (with_reducible refine kSet ?_ ?hB _; case hB => (simp; try omega)) | with_reducible refine kAlloc ?_ _ | with_reducible refine Below.drew ?_ | with_reducible refine kDrewN ?_ _ | with_reducible refine kTrans ?_ (by assumption)))) (HB.out.below (by repeat (first | with_reducible exact Below.refl _ _ | (with_reducible refine kSet ?_ ?hB _; case hB => (simp; try omega)) | with_reducible refine kAlloc ?_ _ | with_reducible refine Below.drew ?_ | with_reducible refine kDrewN ?_ _ | with_reducible refine kTrans ?_ (by assumption)))) H8.out m0).mono ?_
  rintro e w1 ⟨rfl, e1⟩
  have T1 : Below w.heap.size w w1 := kTrans (by first | exact hk | exact kDrewN hk _ | exact hk.drew) e1
  have GA1 := GA.out.below (show Below W.heap.size W w1 from kTrans (by first | exact Below.refl _ _ | exact kDrewN (Below.refl _ _) _ | exact (Below.refl _ _).drew) e1) la
  have GB1 := GB.out.below (show Below W.heap.size W w1 from kTrans (by first | exact Below.refl _ _ | exact kDrewN (Below.refl _ _) _ | exact (Below.refl _ _).drew) e1) lb
  have K1 := Lib.hid (HA1.out.below (show Below W.heap.size W w1 from kTrans (by first | exact Below.refl _ _ | exact kDrewN (Below.refl _ _) _ | exact (Below.refl _ _).drew) e1))
  have L1 := Lib.hid (HB1.out.below (show Below W.heap.size W w1 from kTrans (by first | exact Below.refl _ _ | exact kDrewN (Below.refl _ _) _ | exact (Below.refl _ _).drew) e1))
  clear x0 x1 x2 y0 y1 y2 HA HA1 HB HB1 GA GB e1 HW
  obtain ⟨x0, x1, x2⟩ := GA1
  obtain ⟨y0, y1, y2⟩ := GB1
  go_wp2_with fail
  refine (eqInt16S_any _ _ p _ K1.out L1.out H81.out m1).mono ?_
  rintro e w2 ⟨rfl, e2⟩
  have T2 := kTrans T1 e2
  clear x0 x1 x2 y0 y1 y2 K1 L1
  go_wp2
  go_ret
  exact ⟨rfl, T2⟩
theorem open_network {H : Type} {enc : TypeId × Value → H} {P : Program} {w : World} {r : Reach} {b0 base : Nat} {spare : Nat → Bool} {held : Bool} {t e e1 : TypeId} {f0 f1 f2 : Field} {v : Value} {d : DataW H} {p : List MemPlace}
    (hs : P.underlying t = some (.struct #[f0, f1, f2])) (hone : oneCellFields P #[f0, f1, f2] = true) (hC : P.cellsOf t = 3) (h0 : P.underlying f0.type = some (.int .i8)) (h1 : P.underlying f1.type = some (.slice e)) (h2 : P.underlying f2.type = some (.slice e1))
    (hce : P.cellsOf e = 3) (hfl : flat P 4 e = some [.i8, .i16, .i16]) (hce1 : P.cellsOf e1 = 1) (hfl1 : flat P 4 e1 = some [.i16]) (hv : Value.okWide P w r b0 t v) (h : DataW.Trod enc P w base spare held t v d p) :
    ∃ (ni : Int) (s s1 : Value) (l : List Nd) (l1 : List Int), v = .agg #[.int .i8 ni, s, s1] ∧ i8 ni ∧ SlNd w l s ∧ NdsWf l ∧ l.length ≤ maxLen ∧ SlSh w l1 s1 ∧ ShsWf l1 ∧ l1.length ≤ maxLen := by
  obtain ⟨v0, v1, v2, y0, y1, y2, n, rfl, _, _, g0, g1, g2⟩ := open_agg3 hs hone hC hv h
  obtain ⟨a, ha, _, wa⟩ := DataW.trod_int h0 g0
  simp only [List.cons.injEq, and_true] at ha
  subst ha
  obtain ⟨l, hl, h8, hm⟩ := open_Nds h1 hce hfl g1
  obtain ⟨l1, hl1, h81, hm1⟩ := open_Shs h2 hce1 hfl1 g2
  exact ⟨a, v1, v2, l, l1, rfl, i8_of wa, hl, h8, hm, hl1, h81, hm1⟩
theorem network_struct : ∃ f0 f1 f2 : Field, Tryd.prog.underlying 26 = some (.struct #[f0, f1, f2]) ∧ oneCellFields Tryd.prog #[f0, f1, f2] = true ∧ Tryd.prog.cellsOf 26 = 3 ∧ Tryd.prog.underlying f0.type = some (.int .i8) ∧ Tryd.prog.underlying f1.type = some (.slice 67) ∧ Tryd.prog.underlying f2.type = some (.slice 46) :=
  ⟨_, _, _, Tryd.underlying26, by kernel_rfl, by kernel_rfl, by kernel_rfl, by kernel_rfl, by kernel_rfl⟩
structure NSO (B : Nat) (w : World) (v t : Value) (l : List Nd) (p : List Int) : Prop where
  a : SlONd B w l v
  b : SlOSh B w p t
theorem NSO.start {w : World} {v t : Value} {l : List Nd} {p : List Int} (h : SlNd w l v) (h1 : SlSh w p t) : NSO w.heap.size w v t l p := ⟨SlONd.start h, SlOSh.start h1⟩
theorem NSO.below {B : Nat} {w w' : World} {v t : Value} {l : List Nd} {p : List Int} (h : NSO B w v t l p) (g : Below w.heap.size w w') : NSO B w' v t l p := ⟨h.a.below g, h.b.below g⟩
theorem NSO.out {B lo hi : Nat} {w w' : World} {v t : Value} {l : List Nd} {p : List Int} (h : NSO B w v t l p) (g : KeptOut lo hi w w') (ho : B ≤ lo) : NSO B w' v t l p := ⟨h.a.out g ho, h.b.out g ho⟩
structure NK (w : World) (b k : Nat) (l : List Nd) (p : List Int) : Prop where
  p0 : NdsAt w b 0 l
  p1 : ShsAt w k 0 p
  z0 : b < w.heap.size
  z1 : k < w.heap.size
theorem NK.below {w w' : World} {b k : Nat} {l : List Nd} {p : List Int} (h : NK w b k l p) (g : Below w.heap.size w w') : NK w' b k l p :=
  ⟨h.p0.below g h.z0, h.p1.below g h.z1, Nat.lt_of_lt_of_le h.z0 g.size, Nat.lt_of_lt_of_le h.z1 g.size⟩
theorem OwnN.pk {lo hi b k : Nat} {w : World} {l : List Nd} {p : List Int} (h : OwnN lo hi w b k l p) : NK w b k l p := ⟨h.p0, h.p1, h.h0, h.h1⟩
theorem toN_own {B : Nat} (ni : Int) (v t : Value) (l : List Nd) (p : List Int) (w : World) (h : NSO B w v t l p) (m0 : l.length ≤ 1048576) (m1 : p.length ≤ 1048576) :
    Calls Tryd.prog 8 #[.agg #[.int .i8 ni, v, t]] w fun e w' => ∃ b k, e = .returned (.agg #[.int .i8 ni, .slice (some ⟨b, 0, none⟩) l.length l.length, .slice (some ⟨k, 0, none⟩) p.length p.length]) ∧ OwnN w.heap.size w'.heap.size w' b k l p ∧ Below w.heap.size w w' :=
  toNetwork_own ni v t l p w h.a.sl h.b.sl m0 m1
theorem szN {B : Nat} (ni : Int) (v t : Value) (l : List Nd) (p : List Int) (w : World) (h : NSO B w v t l p) (left : Int) (e0 : l.length ≤ 9223372036854775807) (e1 : p.length ≤ 9223372036854775807) (b0 : 0 ≤ left) (b1 : left ≤ 1048576) :
    Calls Tryd.prog 6 #[.agg #[.int .i8 ni, v, t], .int .i64 left] w fun e w' => e = .returned (.int .i64 (if left - l.length - p.length < 0 then -1 else left - l.length - p.length)) ∧ Below w.heap.size w w' :=
  szNetwork_any ni v t l p w h.a.sl h.b.sl left e0 e1 b0 b1
theorem eqN (ni : Int) (b k b' k' : Nat) (l : List Nd) (p : List Int) (w : World) (h : NK w b k l p) (h' : NK w b' k' l p) (h8 : NdsWf l) (h81 : ShsWf p) (m0 : l.length ≤ 1048576) (m1 : p.length ≤ 1048576) :
    Calls Tryd.prog 10 #[.agg #[.int .i8 ni, .slice (some ⟨b, 0, none⟩) l.length l.length, .slice (some ⟨k, 0, none⟩) p.length p.length], .agg #[.int .i8 ni, .slice (some ⟨b', 0, none⟩) l.length l.length, .slice (some ⟨k', 0, none⟩) p.length p.length]] w fun e w' => e = .returned (.bool true) ∧ Below w.heap.size w w' :=
  eqNetwork_any ni _ _ _ _ l p w (SlNd.mk b 0 _ h.p0 h.z0 (Nat.le_refl _)) (SlSh.mk k 0 _ h.p1 h.z1 (Nat.le_refl _)) (SlNd.mk b' 0 _ h'.p0 h'.z0 (Nat.le_refl _)) (SlSh.mk k' 0 _ h'.p1 h'.z1 (Nat.le_refl _)) h8 h81 m0 m1
end Go.Proofs.YtlbnhdnmcnfgdaaDoor
