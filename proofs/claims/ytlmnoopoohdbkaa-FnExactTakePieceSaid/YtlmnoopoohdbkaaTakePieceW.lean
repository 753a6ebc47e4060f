/- 'TakePiece' answers as its model at every argument. No conditions. -/
import Derived.Test.YtlmnoopoohdbkaaTpS
import Derived.Test.YtlmnoopoohdbkaaTpI
import Derived.Deep.RegionHeld3
import Derived.Deep.DeepCutAuto
namespace Go.Proofs.Ytlmnoopoohdbkaa.TakePiece
open Go.ChangeShapes Go.WideShapes Go.ChangeAt Go.RowKit
set_option linter.unusedVariables false

set_option maxRecDepth 100000 in
set_option maxHeartbeats 16000000 in
theorem walk {w : World} (wd0 hi0 : Int) (v0 : Value) (l0 : List Pc) (bw0 : i8 wd0) (bh0 : i8 hi0) (s0 : Sl w l0 v0) (a0 : All8 l0) (e0 : l0.length ≤ 9223372036854775807) (x1 y1 : Int) (bx1 : i8 x1 ∧ i8 y1) :
    Calls Try.prog 3 #[.agg #[.int .i8 wd0, .int .i8 hi0, v0], .agg #[.int .i8 x1, .int .i8 y1]] w fun e w' => e = .returned (.bool true) ∧ Below w.heap.size w w' := by
  have S0_ := Lib.hid (SlO.start s0)
  clear s0
  by_cases h0 : 1048576 - (l0.length : Int) < 0
  · skip
    have bE : Below w.heap.size w ((w.alloc (.cells #[.int .i8 wd0, .int .i8 hi0, v0] 25)).alloc (.cells #[.int .i8 x1, .int .i8 y1] 26)) := (kAlloc (kAlloc (Below.refl _ _) _) _)
    go_enter Try.func3, Try.ntmps3
    go_wp2_with fail
    refine (szBoard_any wd0 hi0 v0 l0 _ (S0_.out.below bE).sl (1048576) e0 (by omega) (by omega)).mono ?_
    rw [if_pos (by omega)]
    rintro e w1_ ⟨rfl, b1_⟩
    have B1_ : Below w.heap.size w w1_ := kTrans (kAlloc (kAlloc (Below.refl _ _) _) _) b1_
    have n1_ : w.heap.size + 2 ≤ w1_.heap.size := by have := b1_.size; simpa using this
    have T1_ : Below w.heap.size w w1_ := B1_
    have S0_1_ := Lib.hid (S0_.out.below B1_)
    have A0_1_ := Lib.hid (blk_below ((Below.heap_alloc (w.alloc (.cells #[.int .i8 wd0, .int .i8 hi0, v0] 25)) (.cells #[.int .i8 x1, .int .i8 y1] 26) _ (by simp)).trans (heap_alloc_new w (.cells #[.int .i8 wd0, .int .i8 hi0, v0] 25))) b1_)
    have E1_1_ := Lib.hid (blk_below (heap_two w (.cells #[.int .i8 wd0, .int .i8 hi0, v0] 25) (.cells #[.int .i8 x1, .int .i8 y1] 26)) b1_)
    clear bE S0_ b1_ B1_
    go_wp2
    go_ret
    exact ⟨rfl, T1_⟩
  · skip
    have h0' : ¬ 1048576 < (l0.length : Int) := by omega
    have m0 : l0.length ≤ 1048576 := by omega
    have q0 : (5 : Int) * l0.length ≤ 5242880 := by omega
    obtain ⟨F, hF⟩ : ∃ F, findFrom x1 y1 l0 0 = F := ⟨_, rfl⟩
    obtain ⟨Wr, Hr, lr, C, hQ⟩ : ∃ Wr Hr lr C, takeQ (boardOk wd0 hi0 l0) wd0 hi0 l0 F = (Wr, Hr, lr, C) := ⟨_, _, _, _, rfl⟩
    obtain ⟨al0, hr0⟩ := takeQ_ok a0 m0 hQ
    have Hs := Lib.hid (fun b0 w2 hp0 hb0 => specTakePiece_any b0 _ wd0 hi0 x1 y1 l0 w2 rfl hp0 hb0 a0 bw0 bh0 m0 _ rfl F hF Wr Hr lr C hQ)
    have Hi := Lib.hid (fun b0 w2 hp0 hb0 => implTakePiece_any b0 _ wd0 hi0 x1 y1 l0 w2 rfl hp0 hb0 a0 bw0 bh0 m0 _ rfl F hF Wr Hr lr C hQ)
    clear hQ hF
    have qr0 : (5 : Int) * lr.length ≤ 5242880 := by omega
    have bE : Below w.heap.size w ((w.alloc (.cells #[.int .i8 wd0, .int .i8 hi0, v0] 25)).alloc (.cells #[.int .i8 x1, .int .i8 y1] 26)) := (kAlloc (kAlloc (Below.refl _ _) _) _)
    go_enter Try.func3, Try.ntmps3
    go_wp2_with fail
    refine (szBoard_any wd0 hi0 v0 l0 _ (S0_.out.below bE).sl (1048576) e0 (by omega) (by omega)).mono ?_
    rw [if_neg (by omega)]
    rintro e w1_ ⟨rfl, b1_⟩
    have B1_ : Below w.heap.size w w1_ := kTrans (kAlloc (kAlloc (Below.refl _ _) _) _) b1_
    have n1_ : w.heap.size + 2 ≤ w1_.heap.size := by have := b1_.size; simpa using this
    have T1_ : Below w.heap.size w w1_ := B1_
    have S0_1_ := Lib.hid (S0_.out.below B1_)
    have A0_1_ := Lib.hid (blk_below ((Below.heap_alloc (w.alloc (.cells #[.int .i8 wd0, .int .i8 hi0, v0] 25)) (.cells #[.int .i8 x1, .int .i8 y1] 26) _ (by simp)).trans (heap_alloc_new w (.cells #[.int .i8 wd0, .int .i8 hi0, v0] 25))) b1_)
    have E1_1_ := Lib.hid (blk_below (heap_two w (.cells #[.int .i8 wd0, .int .i8 hi0, v0] 25) (.cells #[.int .i8 x1, .int .i8 y1] 26)) b1_)
    clear bE S0_ b1_ B1_
    go_upto_region 5 with fail
    go_cut [6, 7] (fun s1 s2 wx => ∃ (xb lo hi : Nat) (va : Option Addr) (vc : Nat), s1 = .pointer (some ⟨xb, 0, none⟩) ∧ s2 = .int .i64 C ∧ wx.heap[xb]? = some (.cells #[.int .i8 Wr, .int .i8 Hr, .slice va lr.length vc] 30 (0, 0)) ∧ SlW lo hi wx lr (.slice va lr.length vc) ∧ w1_.heap.size ≤ lo ∧ lo ≤ hi ∧ hi ≤ wx.heap.size ∧ w1_.heap.size ≤ xb ∧ (xb < lo ∨ hi ≤ xb) ∧ Below w1_.heap.size w1_ wx)
    case first =>
      have c0_0 : w1_.cell? ⟨w.heap.size, 0, none⟩ = some (.int .i8 wd0) := cell_of_row _ _ 0 _ _ _ A0_1_.out
      have c0_1 : w1_.cell? ⟨w.heap.size, 1, none⟩ = some (.int .i8 hi0) := cell_of_row _ _ 1 _ _ _ A0_1_.out
      have c0_2 : w1_.cell? ⟨w.heap.size, 2, none⟩ = some (v0) := cell_of_row _ _ 2 _ _ _ A0_1_.out
      have lb0_0 : w.heap.size < w1_.heap.size := blk_lt A0_1_.out
      have c1_0 : w1_.cell? ⟨w.heap.size + 1, 0, none⟩ = some (.int .i8 x1) := cell_of_row _ _ 0 _ _ _ E1_1_.out
      have c1_1 : w1_.cell? ⟨w.heap.size + 1, 1, none⟩ = some (.int .i8 y1) := cell_of_row _ _ 1 _ _ _ E1_1_.out
      have lb1_0 : w.heap.size + 1 < w1_.heap.size := blk_lt E1_1_.out
      go_region_held3 (fun w' => w'.cell? ⟨w.heap.size, 0, none⟩ = some (.int .i8 wd0) ∧ w'.cell? ⟨w.heap.size, 1, none⟩ = some (.int .i8 hi0) ∧ w'.cell? ⟨w.heap.size, 2, none⟩ = some (v0) ∧ w'.cell? ⟨w.heap.size + 1, 0, none⟩ = some (.int .i8 x1) ∧ w'.cell? ⟨w.heap.size + 1, 1, none⟩ = some (.int .i8 y1)) (go_keep)
        (first
        | (go_at_call 10
           refine (Hs.out kk1 _ (hp1.out.below (by repeat (first | with_reducible exact Below.refl _ _ | (with_reducible refine kSet ?_ ?hB _; case hB => (simp; try omega)) | with_reducible refine kAlloc ?_ _ | with_reducible refine Below.drew ?_ | with_reducible refine kDrewN ?_ _ | with_reducible refine kTrans ?_ (by assumption))) (by omega)) (by first | omega | (simp; omega))).mono ?_
           rintro e v3 ⟨uu, rfl, hv, b3⟩
           obtain ⟨ua, uc, rfl⟩ := hv.form
           have Hv := Lib.hid hv
           clear hv
           have nn3 : v2.heap.size ≤ v3.heap.size := Nat.le_trans (by first | exact Nat.le_refl _ | simp) b3.size
           try have ox := Lib.hid (show v3.heap[v2.heap.size]? = some (.cells #[.int .i8 0, .int .i8 0, .slice none 0 0] 30 (0, 0)) from blk_below (heap_alloc_new v2 (.cells #[.int .i8 0, .int .i8 0, .slice none 0 0] 30)) b3)
           try have ox := Lib.hid (blk_below ox.out b3)
           have lb0_3 : w.heap.size < v3.heap.size := Nat.lt_of_lt_of_le lb0_2 nn3
           have c0_0 := (b3.cell (p := ⟨w.heap.size, 0, none⟩) (by first | omega | (simp; omega))).trans (by first | exact c0_0 | exact (World.cell?_alloc_lt _ _ _ lb0_2).trans c0_0)
           have c0_1 := (b3.cell (p := ⟨w.heap.size, 1, none⟩) (by first | omega | (simp; omega))).trans (by first | exact c0_1 | exact (World.cell?_alloc_lt _ _ _ lb0_2).trans c0_1)
           have c0_2 := (b3.cell (p := ⟨w.heap.size, 2, none⟩) (by first | omega | (simp; omega))).trans (by first | exact c0_2 | exact (World.cell?_alloc_lt _ _ _ lb0_2).trans c0_2)
           have lb1_3 : w.heap.size + 1 < v3.heap.size := Nat.lt_of_lt_of_le lb1_2 nn3
           have c1_0 := (b3.cell (p := ⟨w.heap.size + 1, 0, none⟩) (by first | omega | (simp; omega))).trans (by first | exact c1_0 | exact (World.cell?_alloc_lt _ _ _ lb1_2).trans c1_0)
           have c1_1 := (b3.cell (p := ⟨w.heap.size + 1, 1, none⟩) (by first | omega | (simp; omega))).trans (by first | exact c1_1 | exact (World.cell?_alloc_lt _ _ _ lb1_2).trans c1_1)
           try have y0 := cell_of_row _ _ 0 _ _ _ ox.out
           try have y1 := cell_of_row _ _ 1 _ _ _ ox.out
           try have y2 := cell_of_row _ _ 2 _ _ _ ox.out
           try have yf := fun j => frozen_of_row _ _ j _ _ ox.out
           have na0_0 : ¬ w.heap.size = w1_.heap.size := by omega
           have nb0_0 : ¬ w1_.heap.size = w.heap.size := by omega
           have na0_1 : ¬ w.heap.size = v1.heap.size := by omega
           have nb0_1 : ¬ v1.heap.size = w.heap.size := by omega
           have na0_2 : ¬ w.heap.size = v2.heap.size := by omega
           have nb0_2 : ¬ v2.heap.size = w.heap.size := by omega
           have na0_3 : ¬ w.heap.size = v3.heap.size := by omega
           have nb0_3 : ¬ v3.heap.size = w.heap.size := by omega
           have na1_0 : ¬ w.heap.size + 1 = w1_.heap.size := by omega
           have nb1_0 : ¬ w1_.heap.size = w.heap.size + 1 := by omega
           have na1_1 : ¬ w.heap.size + 1 = v1.heap.size := by omega
           have nb1_1 : ¬ v1.heap.size = w.heap.size + 1 := by omega
           have na1_2 : ¬ w.heap.size + 1 = v2.heap.size := by omega
           have nb1_2 : ¬ v2.heap.size = w.heap.size + 1 := by omega
           have na1_3 : ¬ w.heap.size + 1 = v3.heap.size := by omega
           have nb1_3 : ¬ v3.heap.size = w.heap.size + 1 := by omega)
        | (go_at_call 12
           refine (toCell_any x1 y1 _).mono ?_
           rintro e v2 ⟨rfl, b2⟩
           have nn2 : v1.heap.size ≤ v2.heap.size := Nat.le_trans (by first | exact Nat.le_refl _ | simp) b2.size
           try have ox := Lib.hid (show v2.heap[v1.heap.size]? = some (.cells #[.int .i8 0, .int .i8 0, .slice none 0 0] 30 (0, 0)) from blk_below (heap_alloc_new v1 (.cells #[.int .i8 0, .int .i8 0, .slice none 0 0] 30)) b2)
           try have ox := Lib.hid (blk_below ox.out b2)
           have lb0_2 : w.heap.size < v2.heap.size := Nat.lt_of_lt_of_le lb0_1 nn2
           have c0_0 := (b2.cell (p := ⟨w.heap.size, 0, none⟩) (by first | omega | (simp; omega))).trans (by first | exact c0_0 | exact (World.cell?_alloc_lt _ _ _ lb0_1).trans c0_0)
           have c0_1 := (b2.cell (p := ⟨w.heap.size, 1, none⟩) (by first | omega | (simp; omega))).trans (by first | exact c0_1 | exact (World.cell?_alloc_lt _ _ _ lb0_1).trans c0_1)
           have c0_2 := (b2.cell (p := ⟨w.heap.size, 2, none⟩) (by first | omega | (simp; omega))).trans (by first | exact c0_2 | exact (World.cell?_alloc_lt _ _ _ lb0_1).trans c0_2)
           have lb1_2 : w.heap.size + 1 < v2.heap.size := Nat.lt_of_lt_of_le lb1_1 nn2
           have c1_0 := (b2.cell (p := ⟨w.heap.size + 1, 0, none⟩) (by first | omega | (simp; omega))).trans (by first | exact c1_0 | exact (World.cell?_alloc_lt _ _ _ lb1_1).trans c1_0)
           have c1_1 := (b2.cell (p := ⟨w.heap.size + 1, 1, none⟩) (by first | omega | (simp; omega))).trans (by first | exact c1_1 | exact (World.cell?_alloc_lt _ _ _ lb1_1).trans c1_1))
        | (go_at_call 11
           refine (toBoard_any wd0 hi0 v0 l0 _ (S0_1_.out.below (by repeat (first | with_reducible exact Below.refl _ _ | (with_reducible refine kSet ?_ ?hB _; case hB => (simp; try omega)) | with_reducible refine kAlloc ?_ _ | with_reducible refine Below.drew ?_ | with_reducible refine kDrewN ?_ _ | with_reducible refine kTrans ?_ (by assumption)))).sl m0).mono ?_
           rintro e v1 ⟨kk1, rfl, yy1, zz1, pp1, b1⟩
           have hp1 := Lib.hid pp1
           clear pp1 yy1
           have nn1 : w1_.heap.size ≤ v1.heap.size := Nat.le_trans (by first | exact Nat.le_refl _ | simp) b1.size
           try have ox := Lib.hid (show v1.heap[w1_.heap.size]? = some (.cells #[.int .i8 0, .int .i8 0, .slice none 0 0] 30 (0, 0)) from blk_below (heap_alloc_new w1_.drew (.cells #[.int .i8 0, .int .i8 0, .slice none 0 0] 30)) b1)
           have lb0_1 : w.heap.size < v1.heap.size := Nat.lt_of_lt_of_le lb0_0 nn1
           have c0_0 := (b1.cell (p := ⟨w.heap.size, 0, none⟩) (by first | omega | (simp; omega))).trans (by first | exact c0_0 | exact (World.cell?_alloc_lt _ _ _ lb0_0).trans c0_0)
           have c0_1 := (b1.cell (p := ⟨w.heap.size, 1, none⟩) (by first | omega | (simp; omega))).trans (by first | exact c0_1 | exact (World.cell?_alloc_lt _ _ _ lb0_0).trans c0_1)
           have c0_2 := (b1.cell (p := ⟨w.heap.size, 2, none⟩) (by first | omega | (simp; omega))).trans (by first | exact c0_2 | exact (World.cell?_alloc_lt _ _ _ lb0_0).trans c0_2)
           have lb1_1 : w.heap.size + 1 < v1.heap.size := Nat.lt_of_lt_of_le lb1_0 nn1
           have c1_0 := (b1.cell (p := ⟨w.heap.size + 1, 0, none⟩) (by first | omega | (simp; omega))).trans (by first | exact c1_0 | exact (World.cell?_alloc_lt _ _ _ lb1_0).trans c1_0)
           have c1_1 := (b1.cell (p := ⟨w.heap.size + 1, 1, none⟩) (by first | omega | (simp; omega))).trans (by first | exact c1_1 | exact (World.cell?_alloc_lt _ _ _ lb1_0).trans c1_1)))
      · go_wp2_with fail
        go_meet
        exact ⟨v3.heap.size, v2.heap.size, v3.heap.size, ua, uc, rfl, rfl, heap_alloc_new _ _, Hv.out.below (kAlloc (Below.refl _ _) _), by omega, by omega, by simp, by omega, .inr (Nat.le_refl _), kAlloc (kTrans (kTrans (kTrans (Below.drew (Below.refl _ _)) b1) b2) b3) _⟩
      · have hc : v2.heap.size + 1 ≤ v3.heap.size := by simpa using b3.size
        have Hv2 := Lib.hid (show SlW (v2.heap.size + 1) v3.heap.size v3 lr _ by simpa only [World.size_alloc] using Hv.out)
        go_wp2_with fail
        go_meet
        exact ⟨v2.heap.size, v2.heap.size + 1, v3.heap.size, ua, uc, rfl, rfl, box3_set ox.out, ((Hv2.out.setFar (by show v2.heap.size < v2.heap.size + 1; omega)).setFar (by show v2.heap.size < v2.heap.size + 1; omega)).setFar (by show v2.heap.size < v2.heap.size + 1; omega), by omega, by omega, by simp [World.setCell], by omega, .inl (by omega), kSet (kSet (kSet (kTrans (kAlloc (kTrans (kTrans (Below.drew (Below.refl _ _)) b1) b2) _) b3) (show w1_.heap.size ≤ v2.heap.size by omega) _) (show w1_.heap.size ≤ v2.heap.size by omega) _) (show w1_.heap.size ≤ v2.heap.size by omega) _⟩
      · have hc : v1.heap.size + 1 ≤ v2.heap.size := by simpa using b2.size
        go_wp2_with fail
        go_meet
        exact ⟨v1.heap.size, v2.heap.size, v3.heap.size, ua, uc, rfl, rfl, box3_set ox.out, ((Hv.out.setFar (by show v1.heap.size < v2.heap.size; omega)).setFar (by show v1.heap.size < v2.heap.size; omega)).setFar (by show v1.heap.size < v2.heap.size; omega), by omega, by omega, by simp [World.setCell], by omega, .inl (by omega), kSet (kSet (kSet (kTrans (kTrans (kAlloc (kTrans (Below.drew (Below.refl _ _)) b1) _) b2) b3) (show w1_.heap.size ≤ v1.heap.size by omega) _) (show w1_.heap.size ≤ v1.heap.size by omega) _) (show w1_.heap.size ≤ v1.heap.size by omega) _⟩
      · have hc : w1_.heap.size + 1 ≤ v1.heap.size := by simpa using b1.size
        go_wp2_with fail
        go_meet
        exact ⟨w1_.heap.size, v2.heap.size, v3.heap.size, ua, uc, rfl, rfl, box3_set ox.out, ((Hv.out.setFar (by show w1_.heap.size < v2.heap.size; omega)).setFar (by show w1_.heap.size < v2.heap.size; omega)).setFar (by show w1_.heap.size < v2.heap.size; omega), by omega, by omega, by simp [World.setCell], by omega, .inl (by omega), kSet (kSet (kSet (kTrans (kTrans (kTrans (kAlloc (Below.drew (Below.refl _ _)) _) b1) b2) b3) (show w1_.heap.size ≤ w1_.heap.size by omega) _) (show w1_.heap.size ≤ w1_.heap.size by omega) _) (show w1_.heap.size ≤ w1_.heap.size by omega) _⟩
    case rest =>
      skip
      obtain ⟨xbw, low, hiw, uaw0, ucw0, rfl, rfl, hx_, hv_, gw1, gw2, gw3, gw4, gw5, b2_⟩ := hcut
      obtain ⟨w2_, rfl⟩ : ∃ W : World, W = wc := ⟨_, rfl⟩
      have gw6 := blk_lt hx_
      have Rw0_2_ := Lib.hid hv_
      have Xw0_2_ := Lib.hid hx_
      clear hv_ hx_
      have n2_ : w1_.heap.size ≤ w2_.heap.size := b2_.size
      have T2_ : Below w.heap.size w w2_ := kTrans T1_ b2_
      have S0_2_ := Lib.hid (S0_1_.out.below b2_)
      have A0_2_ := Lib.hid (blk_below A0_1_.out b2_)
      have E1_2_ := Lib.hid (blk_below E1_1_.out b2_)
      clear S0_1_ A0_1_ E1_1_ b2_ T1_
      have c0_0 : w2_.cell? ⟨w.heap.size, 0, none⟩ = some (.int .i8 wd0) := cell_of_row _ _ 0 _ _ _ A0_2_.out
      have c0_1 : w2_.cell? ⟨w.heap.size, 1, none⟩ = some (.int .i8 hi0) := cell_of_row _ _ 1 _ _ _ A0_2_.out
      have c0_2 : w2_.cell? ⟨w.heap.size, 2, none⟩ = some (v0) := cell_of_row _ _ 2 _ _ _ A0_2_.out
      go_wp2_with fail
      refine (toBoard_own wd0 hi0 v0 l0 _ S0_2_.out.sl m0).mono ?_
      rintro e w3_ ⟨k3_, rfl, vx3_, z3_, p3_, y3_, b3_⟩
      have n3_ : w2_.heap.size ≤ w3_.heap.size := b3_.size
      have T3_ : Below w.heap.size w w3_ := kTrans T2_ b3_
      have P0i_3_ := Lib.hid p3_
      have V0_3_ := Lib.hid vx3_
      clear p3_ vx3_ y3_
      have S0_3_ := Lib.hid (S0_2_.out.below b3_)
      have A0_3_ := Lib.hid (blk_below A0_2_.out b3_)
      have E1_3_ := Lib.hid (blk_below E1_2_.out b3_)
      have Rw0_3_ := Lib.hid (Rw0_2_.out.below b3_)
      have Xw0_3_ := Lib.hid (blk_below Xw0_2_.out b3_)
      clear c0_0 c0_1 c0_2 S0_2_ A0_2_ E1_2_ Rw0_2_ Xw0_2_ b3_ T2_
      have bE : Below w3_.heap.size w3_ (w3_.alloc (.cells #[.int .i8 wd0, .int .i8 hi0, .slice (some ⟨k3_, 0, none⟩) l0.length l0.length] 30)) := (kAlloc (Below.refl _ _) _)
      have S0_4_ := Lib.hid ((S0_3_.out.below bE))
      have A0_4_ := Lib.hid ((blk_below A0_3_.out bE))
      have E1_4_ := Lib.hid ((blk_below E1_3_.out bE))
      have Rw0_4_ := Lib.hid ((Rw0_3_.out.below bE))
      have Xw0_4_ := Lib.hid ((blk_below Xw0_3_.out bE))
      have P0i_4_ := Lib.hid ((P0i_3_.out.below bE (by omega)))
      have V0_4_ := Lib.hid ((V0_3_.out.below bE))
      have X0_4_ := Lib.hid (heap_alloc_new w3_ (.cells #[.int .i8 wd0, .int .i8 hi0, .slice (some ⟨k3_, 0, none⟩) l0.length l0.length] 30))
      have T4_ := kTrans T3_ bE
      have n4_ : w3_.heap.size + 1 ≤ (w3_.alloc (.cells #[.int .i8 wd0, .int .i8 hi0, .slice (some ⟨k3_, 0, none⟩) l0.length l0.length] 30)).heap.size := by simp
      clear bE S0_3_ A0_3_ E1_3_ Rw0_3_ Xw0_3_ P0i_3_ V0_3_ T3_
      go_upto_region 7 with fail
      generalize (w3_.alloc (.cells #[.int .i8 wd0, .int .i8 hi0, .slice (some ⟨k3_, 0, none⟩) l0.length l0.length] 30)) = w4_ at *
      go_cut [9, 10] (fun s1 s2 wx => ∃ (xb lo hi : Nat) (va : Option Addr) (vc : Nat), s1 = .pointer (some ⟨xb, 0, none⟩) ∧ s2 = .int .i64 C ∧ wx.heap[xb]? = some (.cells #[.int .i8 Wr, .int .i8 Hr, .slice va lr.length vc] 30 (0, 0)) ∧ SlW lo hi wx lr (.slice va lr.length vc) ∧ w4_.heap.size ≤ lo ∧ lo ≤ hi ∧ hi ≤ wx.heap.size ∧ w4_.heap.size ≤ xb ∧ (xb < lo ∨ hi ≤ xb) ∧ Below w4_.heap.size w4_ wx)
      case first =>
        have c0_0 : w4_.cell? ⟨w3_.heap.size, 0, none⟩ = some (.int .i8 wd0) := cell_of_row _ _ 0 _ _ _ X0_4_.out
        have c0_1 : w4_.cell? ⟨w3_.heap.size, 1, none⟩ = some (.int .i8 hi0) := cell_of_row _ _ 1 _ _ _ X0_4_.out
        have c0_2 : w4_.cell? ⟨w3_.heap.size, 2, none⟩ = some (.slice (some ⟨k3_, 0, none⟩) l0.length l0.length) := cell_of_row _ _ 2 _ _ _ X0_4_.out
        have lb0_0 : w3_.heap.size < w4_.heap.size := blk_lt X0_4_.out
        have c1_0 : w4_.cell? ⟨w.heap.size + 1, 0, none⟩ = some (.int .i8 x1) := cell_of_row _ _ 0 _ _ _ E1_4_.out
        have c1_1 : w4_.cell? ⟨w.heap.size + 1, 1, none⟩ = some (.int .i8 y1) := cell_of_row _ _ 1 _ _ _ E1_4_.out
        have lb1_0 : w.heap.size + 1 < w4_.heap.size := blk_lt E1_4_.out
        go_region_held3 (fun w' => w'.cell? ⟨w3_.heap.size, 0, none⟩ = some (.int .i8 wd0) ∧ w'.cell? ⟨w3_.heap.size, 1, none⟩ = some (.int .i8 hi0) ∧ w'.cell? ⟨w3_.heap.size, 2, none⟩ = some (.slice (some ⟨k3_, 0, none⟩) l0.length l0.length) ∧ w'.cell? ⟨w.heap.size + 1, 0, none⟩ = some (.int .i8 x1) ∧ w'.cell? ⟨w.heap.size + 1, 1, none⟩ = some (.int .i8 y1)) (go_keep)
          (first
          | (go_at_call 13
             refine (Hi.out k3_ _ (P0i_4_.out.below (by repeat (first | with_reducible exact Below.refl _ _ | (with_reducible refine kSet ?_ ?hB _; case hB => (simp; try omega)) | with_reducible refine kAlloc ?_ _ | with_reducible refine Below.drew ?_ | with_reducible refine kDrewN ?_ _ | with_reducible refine kTrans ?_ (by assumption))) (by omega)) (by first | omega | (simp; omega))).mono ?_
             rintro e v2 ⟨uu, rfl, hv, b2⟩
             obtain ⟨ua, uc, rfl⟩ := hv.form
             have Hv := Lib.hid hv
             clear hv
             have nn2 : v1.heap.size ≤ v2.heap.size := Nat.le_trans (by first | exact Nat.le_refl _ | simp) b2.size
             try have ox := Lib.hid (show v2.heap[v1.heap.size]? = some (.cells #[.int .i8 0, .int .i8 0, .slice none 0 0] 30 (0, 0)) from blk_below (heap_alloc_new v1 (.cells #[.int .i8 0, .int .i8 0, .slice none 0 0] 30)) b2)
             try have ox := Lib.hid (blk_below ox.out b2)
             have lb0_2 : w3_.heap.size < v2.heap.size := Nat.lt_of_lt_of_le lb0_1 nn2
             have c0_0 := (b2.cell (p := ⟨w3_.heap.size, 0, none⟩) (by first | omega | (simp; omega))).trans (by first | exact c0_0 | exact (World.cell?_alloc_lt _ _ _ lb0_1).trans c0_0)
             have c0_1 := (b2.cell (p := ⟨w3_.heap.size, 1, none⟩) (by first | omega | (simp; omega))).trans (by first | exact c0_1 | exact (World.cell?_alloc_lt _ _ _ lb0_1).trans c0_1)
             have c0_2 := (b2.cell (p := ⟨w3_.heap.size, 2, none⟩) (by first | omega | (simp; omega))).trans (by first | exact c0_2 | exact (World.cell?_alloc_lt _ _ _ lb0_1).trans c0_2)
             have lb1_2 : w.heap.size + 1 < v2.heap.size := Nat.lt_of_lt_of_le lb1_1 nn2
             have c1_0 := (b2.cell (p := ⟨w.heap.size + 1, 0, none⟩) (by first | omega | (simp; omega))).trans (by first | exact c1_0 | exact (World.cell?_alloc_lt _ _ _ lb1_1).trans c1_0)
             have c1_1 := (b2.cell (p := ⟨w.heap.size + 1, 1, none⟩) (by first | omega | (simp; omega))).trans (by first | exact c1_1 | exact (World.cell?_alloc_lt _ _ _ lb1_1).trans c1_1)
             try have y0 := cell_of_row _ _ 0 _ _ _ ox.out
             try have y1 := cell_of_row _ _ 1 _ _ _ ox.out
             try have y2 := cell_of_row _ _ 2 _ _ _ ox.out
             try have yf := fun j => frozen_of_row _ _ j _ _ ox.out
             have na0_0 : ¬ w3_.heap.size = w4_.heap.size := by omega
             have nb0_0 : ¬ w4_.heap.size = w3_.heap.size := by omega
             have na0_1 : ¬ w3_.heap.size = v1.heap.size := by omega
             have nb0_1 : ¬ v1.heap.size = w3_.heap.size := by omega
             have na0_2 : ¬ w3_.heap.size = v2.heap.size := by omega
             have nb0_2 : ¬ v2.heap.size = w3_.heap.size := by omega
             have na1_0 : ¬ w.heap.size + 1 = w4_.heap.size := by omega
             have nb1_0 : ¬ w4_.heap.size = w.heap.size + 1 := by omega
             have na1_1 : ¬ w.heap.size + 1 = v1.heap.size := by omega
             have nb1_1 : ¬ v1.heap.size = w.heap.size + 1 := by omega
             have na1_2 : ¬ w.heap.size + 1 = v2.heap.size := by omega
             have nb1_2 : ¬ v2.heap.size = w.heap.size + 1 := by omega)
          | (go_at_call 12
             refine (toCell_any x1 y1 _).mono ?_
             rintro e v1 ⟨rfl, b1⟩
             have nn1 : w4_.heap.size ≤ v1.heap.size := Nat.le_trans (by first | exact Nat.le_refl _ | simp) b1.size
             try have ox := Lib.hid (show v1.heap[w4_.heap.size]? = some (.cells #[.int .i8 0, .int .i8 0, .slice none 0 0] 30 (0, 0)) from blk_below (heap_alloc_new w4_.drew (.cells #[.int .i8 0, .int .i8 0, .slice none 0 0] 30)) b1)
             have lb0_1 : w3_.heap.size < v1.heap.size := Nat.lt_of_lt_of_le lb0_0 nn1
             have c0_0 := (b1.cell (p := ⟨w3_.heap.size, 0, none⟩) (by first | omega | (simp; omega))).trans (by first | exact c0_0 | exact (World.cell?_alloc_lt _ _ _ lb0_0).trans c0_0)
             have c0_1 := (b1.cell (p := ⟨w3_.heap.size, 1, none⟩) (by first | omega | (simp; omega))).trans (by first | exact c0_1 | exact (World.cell?_alloc_lt _ _ _ lb0_0).trans c0_1)
             have c0_2 := (b1.cell (p := ⟨w3_.heap.size, 2, none⟩) (by first | omega | (simp; omega))).trans (by first | exact c0_2 | exact (World.cell?_alloc_lt _ _ _ lb0_0).trans c0_2)
             have lb1_1 : w.heap.size + 1 < v1.heap.size := Nat.lt_of_lt_of_le lb1_0 nn1
             have c1_0 := (b1.cell (p := ⟨w.heap.size + 1, 0, none⟩) (by first | omega | (simp; omega))).trans (by first | exact c1_0 | exact (World.cell?_alloc_lt _ _ _ lb1_0).trans c1_0)
             have c1_1 := (b1.cell (p := ⟨w.heap.size + 1, 1, none⟩) (by first | omega | (simp; omega))).trans (by first | exact c1_1 | exact (World.cell?_alloc_lt _ _ _ lb1_0).trans c1_1)))
        · go_wp2_with fail
          go_meet
          exact ⟨v2.heap.size, v1.heap.size, v2.heap.size, ua, uc, rfl, rfl, heap_alloc_new _ _, Hv.out.below (kAlloc (Below.refl _ _) _), by omega, by omega, by simp, by omega, .inr (Nat.le_refl _), kAlloc (kTrans (kTrans (Below.drew (Below.refl _ _)) b1) b2) _⟩
        · have hc : v1.heap.size + 1 ≤ v2.heap.size := by simpa using b2.size
          have Hv2 := Lib.hid (show SlW (v1.heap.size + 1) v2.heap.size v2 lr _ by simpa only [World.size_alloc] using Hv.out)
          go_wp2_with fail
          go_meet
          exact ⟨v1.heap.size, v1.heap.size + 1, v2.heap.size, ua, uc, rfl, rfl, box3_set ox.out, ((Hv2.out.setFar (by show v1.heap.size < v1.heap.size + 1; omega)).setFar (by show v1.heap.size < v1.heap.size + 1; omega)).setFar (by show v1.heap.size < v1.heap.size + 1; omega), by omega, by omega, by simp [World.setCell], by omega, .inl (by omega), kSet (kSet (kSet (kTrans (kAlloc (kTrans (Below.drew (Below.refl _ _)) b1) _) b2) (show w4_.heap.size ≤ v1.heap.size by omega) _) (show w4_.heap.size ≤ v1.heap.size by omega) _) (show w4_.heap.size ≤ v1.heap.size by omega) _⟩
        · have hc : w4_.heap.size + 1 ≤ v1.heap.size := by simpa using b1.size
          go_wp2_with fail
          go_meet
          exact ⟨w4_.heap.size, v1.heap.size, v2.heap.size, ua, uc, rfl, rfl, box3_set ox.out, ((Hv.out.setFar (by show w4_.heap.size < v1.heap.size; omega)).setFar (by show w4_.heap.size < v1.heap.size; omega)).setFar (by show w4_.heap.size < v1.heap.size; omega), by omega, by omega, by simp [World.setCell], by omega, .inl (by omega), kSet (kSet (kSet (kTrans (kTrans (kAlloc (Below.drew (Below.refl _ _)) _) b1) b2) (show w4_.heap.size ≤ w4_.heap.size by omega) _) (show w4_.heap.size ≤ w4_.heap.size by omega) _) (show w4_.heap.size ≤ w4_.heap.size by omega) _⟩
      case rest =>
        skip
        obtain ⟨xbg, log, hig, uag0, ucg0, rfl, rfl, hx_, hv_, gg1, gg2, gg3, gg4, gg5, b5_⟩ := hcut
        obtain ⟨w5_, rfl⟩ : ∃ W : World, W = wc := ⟨_, rfl⟩
        have gg6 := blk_lt hx_
        have Rg0_5_ := Lib.hid hv_
        have Xg0_5_ := Lib.hid hx_
        clear hv_ hx_
        have n5_ : w4_.heap.size ≤ w5_.heap.size := b5_.size
        have T5_ : Below w.heap.size w w5_ := kTrans T4_ b5_
        have S0_5_ := Lib.hid (S0_4_.out.below b5_)
        have A0_5_ := Lib.hid (blk_below A0_4_.out b5_)
        have E1_5_ := Lib.hid (blk_below E1_4_.out b5_)
        have Rw0_5_ := Lib.hid (Rw0_4_.out.below b5_)
        have Xw0_5_ := Lib.hid (blk_below Xw0_4_.out b5_)
        have V0_5_ := Lib.hid (V0_4_.out.below b5_)
        have X0_5_ := Lib.hid (blk_below X0_4_.out b5_)
        clear S0_4_ A0_4_ E1_4_ Rw0_4_ Xw0_4_ P0i_4_ V0_4_ X0_4_ b5_ T4_
        have c0_0 : w5_.cell? ⟨xbg, 0, none⟩ = some (.int .i8 Wr) := cell_of_row _ _ 0 _ _ _ Xg0_5_.out
        have c0_1 : w5_.cell? ⟨xbg, 1, none⟩ = some (.int .i8 Hr) := cell_of_row _ _ 1 _ _ _ Xg0_5_.out
        have c0_2 : w5_.cell? ⟨xbg, 2, none⟩ = some (.slice uag0 lr.length ucg0) := cell_of_row _ _ 2 _ _ _ Xg0_5_.out
        have c1_0 : w5_.cell? ⟨xbw, 0, none⟩ = some (.int .i8 Wr) := cell_of_row _ _ 0 _ _ _ Xw0_5_.out
        have c1_1 : w5_.cell? ⟨xbw, 1, none⟩ = some (.int .i8 Hr) := cell_of_row _ _ 1 _ _ _ Xw0_5_.out
        have c1_2 : w5_.cell? ⟨xbw, 2, none⟩ = some (.slice uaw0 lr.length ucw0) := cell_of_row _ _ 2 _ _ _ Xw0_5_.out
        go_wp2_with fail
        refine (eqBoard_any Wr Hr _ _ lr _ Rg0_5_.out.sl Rw0_5_.out.sl al0 hr0).mono ?_
        rintro e w6_ ⟨rfl, b6_⟩
        have n6_ : w5_.heap.size ≤ w6_.heap.size := b6_.size
        have T6_ : Below w.heap.size w w6_ := kTrans T5_ b6_
        have S0_6_ := Lib.hid (S0_5_.out.below b6_)
        have A0_6_ := Lib.hid (blk_below A0_5_.out b6_)
        have E1_6_ := Lib.hid (blk_below E1_5_.out b6_)
        have Rw0_6_ := Lib.hid (Rw0_5_.out.below b6_)
        have Xw0_6_ := Lib.hid (blk_below Xw0_5_.out b6_)
        have V0_6_ := Lib.hid (V0_5_.out.below b6_)
        have X0_6_ := Lib.hid (blk_below X0_5_.out b6_)
        have Rg0_6_ := Lib.hid (Rg0_5_.out.below b6_)
        have Xg0_6_ := Lib.hid (blk_below Xg0_5_.out b6_)
        clear c0_0 c0_1 c0_2 c1_0 c1_1 c1_2 S0_5_ A0_5_ E1_5_ Rw0_5_ Xw0_5_ V0_5_ X0_5_ Rg0_5_ Xg0_5_ b6_ T5_
        have c0_0 : w6_.cell? ⟨w.heap.size, 0, none⟩ = some (.int .i8 wd0) := cell_of_row _ _ 0 _ _ _ A0_6_.out
        have c0_1 : w6_.cell? ⟨w.heap.size, 1, none⟩ = some (.int .i8 hi0) := cell_of_row _ _ 1 _ _ _ A0_6_.out
        have c0_2 : w6_.cell? ⟨w.heap.size, 2, none⟩ = some (v0) := cell_of_row _ _ 2 _ _ _ A0_6_.out
        have c1_0 : w6_.cell? ⟨w3_.heap.size, 0, none⟩ = some (.int .i8 wd0) := cell_of_row _ _ 0 _ _ _ X0_6_.out
        have c1_1 : w6_.cell? ⟨w3_.heap.size, 1, none⟩ = some (.int .i8 hi0) := cell_of_row _ _ 1 _ _ _ X0_6_.out
        have c1_2 : w6_.cell? ⟨w3_.heap.size, 2, none⟩ = some (.slice (some ⟨k3_, 0, none⟩) l0.length l0.length) := cell_of_row _ _ 2 _ _ _ X0_6_.out
        have la_ : w.heap.size < w6_.heap.size := blk_lt A0_6_.out
        have lx_ : w3_.heap.size < w6_.heap.size := blk_lt X0_6_.out
        go_wp2_with fail
        go_region_held3 (fun w' => w'.cell? ⟨w.heap.size, 0, none⟩ = some (.int .i8 wd0) ∧ w'.cell? ⟨w.heap.size, 1, none⟩ = some (.int .i8 hi0) ∧ w'.cell? ⟨w.heap.size, 2, none⟩ = some (v0) ∧ w'.cell? ⟨w3_.heap.size, 0, none⟩ = some (.int .i8 wd0) ∧ w'.cell? ⟨w3_.heap.size, 1, none⟩ = some (.int .i8 hi0) ∧ w'.cell? ⟨w3_.heap.size, 2, none⟩ = some (.slice (some ⟨k3_, 0, none⟩) l0.length l0.length)) (go_keep)
          (first
          | (go_at_call 14
             refine (eqBoard_any wd0 hi0 _ _ l0 _ (V0_6_.out.below (kTrans (Below.drew (Below.refl _ _)) b7_)).sl (Sl.mk k7_ 0 _ p7_ z7_ (Nat.le_refl _)) a0 m0).mono ?_
             rintro e w8_ ⟨rfl, b8_⟩
             have c0_0 := (b8_.cell (p := ⟨w.heap.size, 0, none⟩) (Nat.lt_of_lt_of_le la_ b7_.size)).trans c0_0
             have c0_1 := (b8_.cell (p := ⟨w.heap.size, 1, none⟩) (Nat.lt_of_lt_of_le la_ b7_.size)).trans c0_1
             have c0_2 := (b8_.cell (p := ⟨w.heap.size, 2, none⟩) (Nat.lt_of_lt_of_le la_ b7_.size)).trans c0_2
             have c1_0 := (b8_.cell (p := ⟨w3_.heap.size, 0, none⟩) (Nat.lt_of_lt_of_le lx_ b7_.size)).trans c1_0
             have c1_1 := (b8_.cell (p := ⟨w3_.heap.size, 1, none⟩) (Nat.lt_of_lt_of_le lx_ b7_.size)).trans c1_1
             have c1_2 := (b8_.cell (p := ⟨w3_.heap.size, 2, none⟩) (Nat.lt_of_lt_of_le lx_ b7_.size)).trans c1_2)
          | (go_at_call 11
             refine (toBoard_any wd0 hi0 v0 l0 _ (S0_6_.out.below (Below.drew (Below.refl _ _))).sl m0).mono ?_
             rintro e w7_ ⟨k7_, rfl, y7_, z7_, p7_, b7_⟩
             have c0_0 := (b7_.cell (p := ⟨w.heap.size, 0, none⟩) la_).trans c0_0
             have c0_1 := (b7_.cell (p := ⟨w.heap.size, 1, none⟩) la_).trans c0_1
             have c0_2 := (b7_.cell (p := ⟨w.heap.size, 2, none⟩) la_).trans c0_2
             have c1_0 := (b7_.cell (p := ⟨w3_.heap.size, 0, none⟩) lx_).trans c1_0
             have c1_1 := (b7_.cell (p := ⟨w3_.heap.size, 1, none⟩) lx_).trans c1_1
             have c1_2 := (b7_.cell (p := ⟨w3_.heap.size, 2, none⟩) lx_).trans c1_2))
        have bb_ : Below w6_.heap.size w6_ w8_ := kTrans (kTrans (Below.drew (Below.refl _ _)) b7_) b8_
        clear b7_ b8_ y7_ z7_ p7_ la_ lx_
        have n8_ : w6_.heap.size ≤ w8_.heap.size := bb_.size
        have T8_ : Below w.heap.size w w8_ := kTrans T6_ bb_
        have S0_8_ := Lib.hid (S0_6_.out.below bb_)
        have A0_8_ := Lib.hid (blk_below A0_6_.out bb_)
        have E1_8_ := Lib.hid (blk_below E1_6_.out bb_)
        have Rw0_8_ := Lib.hid (Rw0_6_.out.below bb_)
        have Xw0_8_ := Lib.hid (blk_below Xw0_6_.out bb_)
        have V0_8_ := Lib.hid (V0_6_.out.below bb_)
        have X0_8_ := Lib.hid (blk_below X0_6_.out bb_)
        have Rg0_8_ := Lib.hid (Rg0_6_.out.below bb_)
        have Xg0_8_ := Lib.hid (blk_below Xg0_6_.out bb_)
        clear c0_0 c0_1 c0_2 c1_0 c1_1 c1_2 S0_6_ A0_6_ E1_6_ Rw0_6_ Xw0_6_ V0_6_ X0_6_ Rg0_6_ Xg0_6_ bb_ T6_
        have c0_0 : w8_.cell? ⟨w3_.heap.size, 0, none⟩ = some (.int .i8 wd0) := cell_of_row _ _ 0 _ _ _ X0_8_.out
        have c0_1 : w8_.cell? ⟨w3_.heap.size, 1, none⟩ = some (.int .i8 hi0) := cell_of_row _ _ 1 _ _ _ X0_8_.out
        have c0_2 : w8_.cell? ⟨w3_.heap.size, 2, none⟩ = some (.slice (some ⟨k3_, 0, none⟩) l0.length l0.length) := cell_of_row _ _ 2 _ _ _ X0_8_.out
        go_wp2_with fail
        refine (markBoard_any _ _ wd0 hi0 _ l0 (1) _ V0_8_.out (by omega) (by omega) (by omega) m0).mono ?_
        rintro e w9_ ⟨rfl, _, b9_⟩
        have n9_ : w8_.heap.size ≤ w9_.heap.size := b9_.size
        have T9_ := kOut T8_ b9_ (by omega)
        have S0_9_ := Lib.hid (S0_8_.out.out b9_ (by omega))
        have A0_9_ := Lib.hid (blk_out A0_8_.out b9_ (by omega))
        have E1_9_ := Lib.hid (blk_out E1_8_.out b9_ (by omega))
        have Rw0_9_ := Lib.hid (Rw0_8_.out.out b9_ (by omega))
        have Xw0_9_ := Lib.hid (blk_out Xw0_8_.out b9_ (by omega))
        have Rg0_9_ := Lib.hid (Rg0_8_.out.out b9_ (by omega))
        have Xg0_9_ := Lib.hid (blk_out Xg0_8_.out b9_ (by omega))
        clear c0_0 c0_1 c0_2 S0_8_ A0_8_ E1_8_ Rw0_8_ Xw0_8_ V0_8_ X0_8_ Rg0_8_ Xg0_8_ b9_ T8_
        have c0_0 : w9_.cell? ⟨xbg, 0, none⟩ = some (.int .i8 Wr) := cell_of_row _ _ 0 _ _ _ Xg0_9_.out
        have c0_1 : w9_.cell? ⟨xbg, 1, none⟩ = some (.int .i8 Hr) := cell_of_row _ _ 1 _ _ _ Xg0_9_.out
        have c0_2 : w9_.cell? ⟨xbg, 2, none⟩ = some (.slice uag0 lr.length ucg0) := cell_of_row _ _ 2 _ _ _ Xg0_9_.out
        have c1_0 : w9_.cell? ⟨xbw, 0, none⟩ = some (.int .i8 Wr) := cell_of_row _ _ 0 _ _ _ Xw0_9_.out
        have c1_1 : w9_.cell? ⟨xbw, 1, none⟩ = some (.int .i8 Hr) := cell_of_row _ _ 1 _ _ _ Xw0_9_.out
        have c1_2 : w9_.cell? ⟨xbw, 2, none⟩ = some (.slice uaw0 lr.length ucw0) := cell_of_row _ _ 2 _ _ _ Xw0_9_.out
        go_wp2_with fail
        refine (eqBoard_any Wr Hr _ _ lr _ Rg0_9_.out.sl Rw0_9_.out.sl al0 hr0).mono ?_
        rintro e w10_ ⟨rfl, b10_⟩
        have n10_ : w9_.heap.size ≤ w10_.heap.size := b10_.size
        have T10_ : Below w.heap.size w w10_ := kTrans T9_ b10_
        have S0_10_ := Lib.hid (S0_9_.out.below b10_)
        have A0_10_ := Lib.hid (blk_below A0_9_.out b10_)
        have E1_10_ := Lib.hid (blk_below E1_9_.out b10_)
        have Rw0_10_ := Lib.hid (Rw0_9_.out.below b10_)
        have Xw0_10_ := Lib.hid (blk_below Xw0_9_.out b10_)
        have Rg0_10_ := Lib.hid (Rg0_9_.out.below b10_)
        have Xg0_10_ := Lib.hid (blk_below Xg0_9_.out b10_)
        clear c0_0 c0_1 c0_2 c1_0 c1_1 c1_2 S0_9_ A0_9_ E1_9_ Rw0_9_ Xw0_9_ Rg0_9_ Xg0_9_ b10_ T9_
        have c0_0 : w10_.cell? ⟨xbg, 0, none⟩ = some (.int .i8 Wr) := cell_of_row _ _ 0 _ _ _ Xg0_10_.out
        have c0_1 : w10_.cell? ⟨xbg, 1, none⟩ = some (.int .i8 Hr) := cell_of_row _ _ 1 _ _ _ Xg0_10_.out
        have c0_2 : w10_.cell? ⟨xbg, 2, none⟩ = some (.slice uag0 lr.length ucg0) := cell_of_row _ _ 2 _ _ _ Xg0_10_.out
        go_wp2_with fail
        refine (markBoard_any _ _ Wr Hr _ lr (1) _ Rg0_10_.out (by omega) (by omega) (by omega) hr0).mono ?_
        rintro e w11_ ⟨rfl, vm_, b11_⟩
        have n11_ : w10_.heap.size ≤ w11_.heap.size := b11_.size
        have T11_ := kOut T10_ b11_ (by omega)
        have Rg0_11_ := Lib.hid vm_
        clear vm_
        have S0_11_ := Lib.hid (S0_10_.out.out b11_ (by omega))
        have A0_11_ := Lib.hid (blk_out A0_10_.out b11_ (by omega))
        have E1_11_ := Lib.hid (blk_out E1_10_.out b11_ (by omega))
        have Rw0_11_ := Lib.hid (Rw0_10_.out.out b11_ (by omega))
        have Xw0_11_ := Lib.hid (blk_out Xw0_10_.out b11_ (by omega))
        have Xg0_11_ := Lib.hid (blk_out Xg0_10_.out b11_ (by omega))
        clear c0_0 c0_1 c0_2 S0_10_ A0_10_ E1_10_ Rw0_10_ Xw0_10_ Rg0_10_ Xg0_10_ b11_ T10_
        have c0_0 : w11_.cell? ⟨xbg, 0, none⟩ = some (.int .i8 Wr) := cell_of_row _ _ 0 _ _ _ Xg0_11_.out
        have c0_1 : w11_.cell? ⟨xbg, 1, none⟩ = some (.int .i8 Hr) := cell_of_row _ _ 1 _ _ _ Xg0_11_.out
        have c0_2 : w11_.cell? ⟨xbg, 2, none⟩ = some (.slice uag0 lr.length ucg0) := cell_of_row _ _ 2 _ _ _ Xg0_11_.out
        go_wp2_with fail
        refine (heldBoard_any _ _ lr.length Wr Hr _ (1) _ Rg0_11_.out (by omega) (by omega) hr0).mono ?_
        rintro e w12_ ⟨rfl, b12_⟩
        have n12_ : w11_.heap.size ≤ w12_.heap.size := b12_.size
        have T12_ : Below w.heap.size w w12_ := kTrans T11_ b12_
        have S0_12_ := Lib.hid (S0_11_.out.below b12_)
        have A0_12_ := Lib.hid (blk_below A0_11_.out b12_)
        have E1_12_ := Lib.hid (blk_below E1_11_.out b12_)
        have Rw0_12_ := Lib.hid (Rw0_11_.out.below b12_)
        have Xw0_12_ := Lib.hid (blk_below Xw0_11_.out b12_)
        have Rg0_12_ := Lib.hid (Rg0_11_.out.below b12_)
        have Xg0_12_ := Lib.hid (blk_below Xg0_11_.out b12_)
        clear c0_0 c0_1 c0_2 S0_11_ A0_11_ E1_11_ Rw0_11_ Xw0_11_ Rg0_11_ Xg0_11_ b12_ T11_
        go_upto_region 24 with fail
        go_cut [14, 15] (fun s1 s2 wx => ∃ (xb lo hi : Nat) (va : Option Addr) (vc : Nat), s1 = .pointer (some ⟨xb, 0, none⟩) ∧ s2 = .int .i64 C ∧ wx.heap[xb]? = some (.cells #[.int .i8 Wr, .int .i8 Hr, .slice va lr.length vc] 30 (0, 0)) ∧ SlW lo hi wx lr (.slice va lr.length vc) ∧ w12_.heap.size ≤ lo ∧ lo ≤ hi ∧ hi ≤ wx.heap.size ∧ w12_.heap.size ≤ xb ∧ (xb < lo ∨ hi ≤ xb) ∧ Below w12_.heap.size w12_ wx)
        case first =>
          have c0_0 : w12_.cell? ⟨w.heap.size, 0, none⟩ = some (.int .i8 wd0) := cell_of_row _ _ 0 _ _ _ A0_12_.out
          have c0_1 : w12_.cell? ⟨w.heap.size, 1, none⟩ = some (.int .i8 hi0) := cell_of_row _ _ 1 _ _ _ A0_12_.out
          have c0_2 : w12_.cell? ⟨w.heap.size, 2, none⟩ = some (v0) := cell_of_row _ _ 2 _ _ _ A0_12_.out
          have lb0_0 : w.heap.size < w12_.heap.size := blk_lt A0_12_.out
          have c1_0 : w12_.cell? ⟨w.heap.size + 1, 0, none⟩ = some (.int .i8 x1) := cell_of_row _ _ 0 _ _ _ E1_12_.out
          have c1_1 : w12_.cell? ⟨w.heap.size + 1, 1, none⟩ = some (.int .i8 y1) := cell_of_row _ _ 1 _ _ _ E1_12_.out
          have lb1_0 : w.heap.size + 1 < w12_.heap.size := blk_lt E1_12_.out
          go_region_held3 (fun w' => w'.cell? ⟨w.heap.size, 0, none⟩ = some (.int .i8 wd0) ∧ w'.cell? ⟨w.heap.size, 1, none⟩ = some (.int .i8 hi0) ∧ w'.cell? ⟨w.heap.size, 2, none⟩ = some (v0) ∧ w'.cell? ⟨w.heap.size + 1, 0, none⟩ = some (.int .i8 x1) ∧ w'.cell? ⟨w.heap.size + 1, 1, none⟩ = some (.int .i8 y1)) (go_keep)
            (first
            | (go_at_call 13
               refine (Hi.out kk1 _ (hp1.out.below (by repeat (first | with_reducible exact Below.refl _ _ | (with_reducible refine kSet ?_ ?hB _; case hB => (simp; try omega)) | with_reducible refine kAlloc ?_ _ | with_reducible refine Below.drew ?_ | with_reducible refine kDrewN ?_ _ | with_reducible refine kTrans ?_ (by assumption))) (by omega)) (by first | omega | (simp; omega))).mono ?_
               rintro e v3 ⟨uu, rfl, hv, b3⟩
               obtain ⟨ua, uc, rfl⟩ := hv.form
               have Hv := Lib.hid hv
               clear hv
               have nn3 : v2.heap.size ≤ v3.heap.size := Nat.le_trans (by first | exact Nat.le_refl _ | simp) b3.size
               try have ox := Lib.hid (show v3.heap[v2.heap.size]? = some (.cells #[.int .i8 0, .int .i8 0, .slice none 0 0] 30 (0, 0)) from blk_below (heap_alloc_new v2 (.cells #[.int .i8 0, .int .i8 0, .slice none 0 0] 30)) b3)
               try have ox := Lib.hid (blk_below ox.out b3)
               have lb0_3 : w.heap.size < v3.heap.size := Nat.lt_of_lt_of_le lb0_2 nn3
               have c0_0 := (b3.cell (p := ⟨w.heap.size, 0, none⟩) (by first | omega | (simp; omega))).trans (by first | exact c0_0 | exact (World.cell?_alloc_lt _ _ _ lb0_2).trans c0_0)
               have c0_1 := (b3.cell (p := ⟨w.heap.size, 1, none⟩) (by first | omega | (simp; omega))).trans (by first | exact c0_1 | exact (World.cell?_alloc_lt _ _ _ lb0_2).trans c0_1)
               have c0_2 := (b3.cell (p := ⟨w.heap.size, 2, none⟩) (by first | omega | (simp; omega))).trans (by first | exact c0_2 | exact (World.cell?_alloc_lt _ _ _ lb0_2).trans c0_2)
               have lb1_3 : w.heap.size + 1 < v3.heap.size := Nat.lt_of_lt_of_le lb1_2 nn3
               have c1_0 := (b3.cell (p := ⟨w.heap.size + 1, 0, none⟩) (by first | omega | (simp; omega))).trans (by first | exact c1_0 | exact (World.cell?_alloc_lt _ _ _ lb1_2).trans c1_0)
               have c1_1 := (b3.cell (p := ⟨w.heap.size + 1, 1, none⟩) (by first | omega | (simp; omega))).trans (by first | exact c1_1 | exact (World.cell?_alloc_lt _ _ _ lb1_2).trans c1_1)
               try have y0 := cell_of_row _ _ 0 _ _ _ ox.out
               try have y1 := cell_of_row _ _ 1 _ _ _ ox.out
               try have y2 := cell_of_row _ _ 2 _ _ _ ox.out
               try have yf := fun j => frozen_of_row _ _ j _ _ ox.out
               have na0_0 : ¬ w.heap.size = w12_.heap.size := by omega
               have nb0_0 : ¬ w12_.heap.size = w.heap.size := by omega
               have na0_1 : ¬ w.heap.size = v1.heap.size := by omega
               have nb0_1 : ¬ v1.heap.size = w.heap.size := by omega
               have na0_2 : ¬ w.heap.size = v2.heap.size := by omega
               have nb0_2 : ¬ v2.heap.size = w.heap.size := by omega
               have na0_3 : ¬ w.heap.size = v3.heap.size := by omega
               have nb0_3 : ¬ v3.heap.size = w.heap.size := by omega
               have na1_0 : ¬ w.heap.size + 1 = w12_.heap.size := by omega
               have nb1_0 : ¬ w12_.heap.size = w.heap.size + 1 := by omega
               have na1_1 : ¬ w.heap.size + 1 = v1.heap.size := by omega
               have nb1_1 : ¬ v1.heap.size = w.heap.size + 1 := by omega
               have na1_2 : ¬ w.heap.size + 1 = v2.heap.size := by omega
               have nb1_2 : ¬ v2.heap.size = w.heap.size + 1 := by omega
               have na1_3 : ¬ w.heap.size + 1 = v3.heap.size := by omega
               have nb1_3 : ¬ v3.heap.size = w.heap.size + 1 := by omega)
            | (go_at_call 12
               refine (toCell_any x1 y1 _).mono ?_
               rintro e v2 ⟨rfl, b2⟩
               have nn2 : v1.heap.size ≤ v2.heap.size := Nat.le_trans (by first | exact Nat.le_refl _ | simp) b2.size
               try have ox := Lib.hid (show v2.heap[v1.heap.size]? = some (.cells #[.int .i8 0, .int .i8 0, .slice none 0 0] 30 (0, 0)) from blk_below (heap_alloc_new v1 (.cells #[.int .i8 0, .int .i8 0, .slice none 0 0] 30)) b2)
               try have ox := Lib.hid (blk_below ox.out b2)
               have lb0_2 : w.heap.size < v2.heap.size := Nat.lt_of_lt_of_le lb0_1 nn2
               have c0_0 := (b2.cell (p := ⟨w.heap.size, 0, none⟩) (by first | omega | (simp; omega))).trans (by first | exact c0_0 | exact (World.cell?_alloc_lt _ _ _ lb0_1).trans c0_0)
               have c0_1 := (b2.cell (p := ⟨w.heap.size, 1, none⟩) (by first | omega | (simp; omega))).trans (by first | exact c0_1 | exact (World.cell?_alloc_lt _ _ _ lb0_1).trans c0_1)
               have c0_2 := (b2.cell (p := ⟨w.heap.size, 2, none⟩) (by first | omega | (simp; omega))).trans (by first | exact c0_2 | exact (World.cell?_alloc_lt _ _ _ lb0_1).trans c0_2)
               have lb1_2 : w.heap.size + 1 < v2.heap.size := Nat.lt_of_lt_of_le lb1_1 nn2
               have c1_0 := (b2.cell (p := ⟨w.heap.size + 1, 0, none⟩) (by first | omega | (simp; omega))).trans (by first | exact c1_0 | exact (World.cell?_alloc_lt _ _ _ lb1_1).trans c1_0)
               have c1_1 := (b2.cell (p := ⟨w.heap.size + 1, 1, none⟩) (by first | omega | (simp; omega))).trans (by first | exact c1_1 | exact (World.cell?_alloc_lt _ _ _ lb1_1).trans c1_1))
            | (go_at_call 11
               refine (toBoard_any wd0 hi0 v0 l0 _ (S0_12_.out.below (by repeat (first | with_reducible exact Below.refl _ _ | (with_reducible refine kSet ?_ ?hB _; case hB => (simp; try omega)) | with_reducible refine kAlloc ?_ _ | with_reducible refine Below.drew ?_ | with_reducible refine kDrewN ?_ _ | with_reducible refine kTrans ?_ (by assumption)))).sl m0).mono ?_
               rintro e v1 ⟨kk1, rfl, yy1, zz1, pp1, b1⟩
               have hp1 := Lib.hid pp1
               clear pp1 yy1
               have nn1 : w12_.heap.size ≤ v1.heap.size := Nat.le_trans (by first | exact Nat.le_refl _ | simp) b1.size
               try have ox := Lib.hid (show v1.heap[w12_.heap.size]? = some (.cells #[.int .i8 0, .int .i8 0, .slice none 0 0] 30 (0, 0)) from blk_below (heap_alloc_new w12_.drew (.cells #[.int .i8 0, .int .i8 0, .slice none 0 0] 30)) b1)
               have lb0_1 : w.heap.size < v1.heap.size := Nat.lt_of_lt_of_le lb0_0 nn1
               have c0_0 := (b1.cell (p := ⟨w.heap.size, 0, none⟩) (by first | omega | (simp; omega))).trans (by first | exact c0_0 | exact (World.cell?_alloc_lt _ _ _ lb0_0).trans c0_0)
               have c0_1 := (b1.cell (p := ⟨w.heap.size, 1, none⟩) (by first | omega | (simp; omega))).trans (by first | exact c0_1 | exact (World.cell?_alloc_lt _ _ _ lb0_0).trans c0_1)
               have c0_2 := (b1.cell (p := ⟨w.heap.size, 2, none⟩) (by first | omega | (simp; omega))).trans (by first | exact c0_2 | exact (World.cell?_alloc_lt _ _ _ lb0_0).trans c0_2)
               have lb1_1 : w.heap.size + 1 < v1.heap.size := Nat.lt_of_lt_of_le lb1_0 nn1
               have c1_0 := (b1.cell (p := ⟨w.heap.size + 1, 0, none⟩) (by first | omega | (simp; omega))).trans (by first | exact c1_0 | exact (World.cell?_alloc_lt _ _ _ lb1_0).trans c1_0)
               have c1_1 := (b1.cell (p := ⟨w.heap.size + 1, 1, none⟩) (by first | omega | (simp; omega))).trans (by first | exact c1_1 | exact (World.cell?_alloc_lt _ _ _ lb1_0).trans c1_1)))
          · go_wp2_with fail
            go_meet
            exact ⟨v3.heap.size, v2.heap.size, v3.heap.size, ua, uc, rfl, rfl, heap_alloc_new _ _, Hv.out.below (kAlloc (Below.refl _ _) _), by omega, by omega, by simp, by omega, .inr (Nat.le_refl _), kAlloc (kTrans (kTrans (kTrans (Below.drew (Below.refl _ _)) b1) b2) b3) _⟩
          · have hc : v2.heap.size + 1 ≤ v3.heap.size := by simpa using b3.size
            have Hv2 := Lib.hid (show SlW (v2.heap.size + 1) v3.heap.size v3 lr _ by simpa only [World.size_alloc] using Hv.out)
            go_wp2_with fail
            go_meet
            exact ⟨v2.heap.size, v2.heap.size + 1, v3.heap.size, ua, uc, rfl, rfl, box3_set ox.out, ((Hv2.out.setFar (by show v2.heap.size < v2.heap.size + 1; omega)).setFar (by show v2.heap.size < v2.heap.size + 1; omega)).setFar (by show v2.heap.size < v2.heap.size + 1; omega), by omega, by omega, by simp [World.setCell], by omega, .inl (by omega), kSet (kSet (kSet (kTrans (kAlloc (kTrans (kTrans (Below.drew (Below.refl _ _)) b1) b2) _) b3) (show w12_.heap.size ≤ v2.heap.size by omega) _) (show w12_.heap.size ≤ v2.heap.size by omega) _) (show w12_.heap.size ≤ v2.heap.size by omega) _⟩
          · have hc : v1.heap.size + 1 ≤ v2.heap.size := by simpa using b2.size
            go_wp2_with fail
            go_meet
            exact ⟨v1.heap.size, v2.heap.size, v3.heap.size, ua, uc, rfl, rfl, box3_set ox.out, ((Hv.out.setFar (by show v1.heap.size < v2.heap.size; omega)).setFar (by show v1.heap.size < v2.heap.size; omega)).setFar (by show v1.heap.size < v2.heap.size; omega), by omega, by omega, by simp [World.setCell], by omega, .inl (by omega), kSet (kSet (kSet (kTrans (kTrans (kAlloc (kTrans (Below.drew (Below.refl _ _)) b1) _) b2) b3) (show w12_.heap.size ≤ v1.heap.size by omega) _) (show w12_.heap.size ≤ v1.heap.size by omega) _) (show w12_.heap.size ≤ v1.heap.size by omega) _⟩
          · have hc : w12_.heap.size + 1 ≤ v1.heap.size := by simpa using b1.size
            go_wp2_with fail
            go_meet
            exact ⟨w12_.heap.size, v2.heap.size, v3.heap.size, ua, uc, rfl, rfl, box3_set ox.out, ((Hv.out.setFar (by show w12_.heap.size < v2.heap.size; omega)).setFar (by show w12_.heap.size < v2.heap.size; omega)).setFar (by show w12_.heap.size < v2.heap.size; omega), by omega, by omega, by simp [World.setCell], by omega, .inl (by omega), kSet (kSet (kSet (kTrans (kTrans (kTrans (kAlloc (Below.drew (Below.refl _ _)) _) b1) b2) b3) (show w12_.heap.size ≤ w12_.heap.size by omega) _) (show w12_.heap.size ≤ w12_.heap.size by omega) _) (show w12_.heap.size ≤ w12_.heap.size by omega) _⟩
        case rest =>
          skip
          obtain ⟨xbh, loh, hih, uah0, uch0, rfl, rfl, hx_, hv_, gh1, gh2, gh3, gh4, gh5, b13_⟩ := hcut
          obtain ⟨w13_, rfl⟩ : ∃ W : World, W = wc := ⟨_, rfl⟩
          have gh6 := blk_lt hx_
          have Rh0_13_ := Lib.hid hv_
          have Xh0_13_ := Lib.hid hx_
          clear hv_ hx_
          have n13_ : w12_.heap.size ≤ w13_.heap.size := b13_.size
          have T13_ : Below w.heap.size w w13_ := kTrans T12_ b13_
          have Rw0_13_ := Lib.hid (Rw0_12_.out.below b13_)
          have Xw0_13_ := Lib.hid (blk_below Xw0_12_.out b13_)
          have Rg0_13_ := Lib.hid (Rg0_12_.out.below b13_)
          have Xg0_13_ := Lib.hid (blk_below Xg0_12_.out b13_)
          clear S0_12_ A0_12_ E1_12_ Rw0_12_ Xw0_12_ Rg0_12_ Xg0_12_ b13_ T12_
          have c0_0 : w13_.cell? ⟨xbh, 0, none⟩ = some (.int .i8 Wr) := cell_of_row _ _ 0 _ _ _ Xh0_13_.out
          have c0_1 : w13_.cell? ⟨xbh, 1, none⟩ = some (.int .i8 Hr) := cell_of_row _ _ 1 _ _ _ Xh0_13_.out
          have c0_2 : w13_.cell? ⟨xbh, 2, none⟩ = some (.slice uah0 lr.length uch0) := cell_of_row _ _ 2 _ _ _ Xh0_13_.out
          have c1_0 : w13_.cell? ⟨xbw, 0, none⟩ = some (.int .i8 Wr) := cell_of_row _ _ 0 _ _ _ Xw0_13_.out
          have c1_1 : w13_.cell? ⟨xbw, 1, none⟩ = some (.int .i8 Hr) := cell_of_row _ _ 1 _ _ _ Xw0_13_.out
          have c1_2 : w13_.cell? ⟨xbw, 2, none⟩ = some (.slice uaw0 lr.length ucw0) := cell_of_row _ _ 2 _ _ _ Xw0_13_.out
          go_wp2_with fail
          refine (eqBoard_any Wr Hr _ _ lr _ Rh0_13_.out.sl Rw0_13_.out.sl al0 hr0).mono ?_
          rintro e w14_ ⟨rfl, b14_⟩
          have n14_ : w13_.heap.size ≤ w14_.heap.size := b14_.size
          have T14_ : Below w.heap.size w w14_ := kTrans T13_ b14_
          have Rw0_14_ := Lib.hid (Rw0_13_.out.below b14_)
          have Xw0_14_ := Lib.hid (blk_below Xw0_13_.out b14_)
          have Rg0_14_ := Lib.hid (Rg0_13_.out.below b14_)
          have Xg0_14_ := Lib.hid (blk_below Xg0_13_.out b14_)
          have Rh0_14_ := Lib.hid (Rh0_13_.out.below b14_)
          have Xh0_14_ := Lib.hid (blk_below Xh0_13_.out b14_)
          clear c0_0 c0_1 c0_2 c1_0 c1_1 c1_2 Rw0_13_ Xw0_13_ Rg0_13_ Xg0_13_ Rh0_13_ Xh0_13_ b14_ T13_
          have c0_0 : w14_.cell? ⟨xbg, 0, none⟩ = some (.int .i8 Wr) := cell_of_row _ _ 0 _ _ _ Xg0_14_.out
          have c0_1 : w14_.cell? ⟨xbg, 1, none⟩ = some (.int .i8 Hr) := cell_of_row _ _ 1 _ _ _ Xg0_14_.out
          have c0_2 : w14_.cell? ⟨xbg, 2, none⟩ = some (.slice uag0 lr.length ucg0) := cell_of_row _ _ 2 _ _ _ Xg0_14_.out
          go_wp2_with fail
          refine (heldBoard_any _ _ lr.length Wr Hr _ (1) _ Rg0_14_.out (by omega) (by omega) hr0).mono ?_
          rintro e w15_ ⟨rfl, b15_⟩
          have n15_ : w14_.heap.size ≤ w15_.heap.size := b15_.size
          have T15_ : Below w.heap.size w w15_ := kTrans T14_ b15_
          have Rw0_15_ := Lib.hid (Rw0_14_.out.below b15_)
          have Xw0_15_ := Lib.hid (blk_below Xw0_14_.out b15_)
          have Rg0_15_ := Lib.hid (Rg0_14_.out.below b15_)
          have Xg0_15_ := Lib.hid (blk_below Xg0_14_.out b15_)
          have Rh0_15_ := Lib.hid (Rh0_14_.out.below b15_)
          have Xh0_15_ := Lib.hid (blk_below Xh0_14_.out b15_)
          clear c0_0 c0_1 c0_2 Rw0_14_ Xw0_14_ Rg0_14_ Xg0_14_ Rh0_14_ Xh0_14_ b15_ T14_
          go_wp2
          go_ret
          exact ⟨rfl, T15_⟩
end Go.Proofs.Ytlmnoopoohdbkaa.TakePiece
