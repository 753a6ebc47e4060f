/- MachineText: the model. -/
import Derived.Test.YtmllfacgonchnaaDoorMx0
import Derived.Test.YtmllfacgonchnaaDoorBtS
import Derived.Test.YtmllfacgonchnaaDoorMs
namespace Go.Proofs.YtmllfacgonchnaaDoor
open Go.ChangeShapes Go.WideShapes Go.ChangeAt Go.RowKit Go.Joins Go.Deep
set_option linter.unusedVariables false
set_option linter.unusedSimpArgs false

def SmP (bb k j n1 : Nat) (px py ps : Int) (w : World) : Prop := w.cell? ⟨bb, 3, none⟩ = some (.slice (some ⟨k, 0, none⟩) n1 n1) ∧ bb < w.heap.size ∧ PoAt w k (j * 3) ⟨px, py, ps⟩ ∧ k < w.heap.size
theorem SmP.below {bb k j n1 : Nat} {px py ps : Int} {w w' : World} (h : SmP bb k j n1 px py ps w) (g : Below w.heap.size w w') : SmP bb k j n1 px py ps w' :=
  ⟨(g.cell (p := ⟨bb, 3, none⟩) h.2.1).trans h.1, Nat.lt_of_lt_of_le h.2.1 g.size, h.2.2.1.below g h.2.2.2, Nat.lt_of_lt_of_le h.2.2.2 g.size⟩
def M4 (w : World) (g : Nat) : Prop := (∀ k : Nat, k < 4 → w.cell? ⟨g, k, none⟩ = some (.string (bsT (sideWL (k : Int))))) ∧ g < w.heap.size
theorem l02SidesM_any (w : World) : Calls Tryd.prog 89 #[] w fun e w' => ∃ g, e = .returned (.slice (some ⟨g, 0, none⟩) 4 4) ∧ M4 w' g ∧ Below w.heap.size w w' := by
  go_enter Tryd.func89, Tryd.ntmps89
  go_wp2
  go_ret
  refine ⟨w.heap.size, rfl, ⟨fun k hk => ?_, by simp⟩, by repeat (first | with_reducible exact Below.refl _ _ | (with_reducible refine kSet ?_ ?hB _; case hB => (simp; try omega)) | with_reducible refine kAlloc ?_ _ | with_reducible refine Below.drew ?_ | with_reducible refine kDrewN ?_ _ | with_reducible refine kTrans ?_ (by assumption))⟩
  rw [cell_of_row _ _ k _ _ _ (nNewX _ _)]
  have hc : k = 0 ∨ k = 1 ∨ k = 2 ∨ k = 3 := by omega
  rcases hc with rfl | rfl | rfl | rfl <;> rfl
set_option maxRecDepth 100000 in
set_option maxHeartbeats 4000000 in
theorem l03Cell_any (x y : Int) (w : World) (hx0 : 0 ≤ x) (hx1 : x ≤ 23) (hy0 : 0 ≤ y) (hy1 : y ≤ 23) :
    Calls Tryd.prog 96 #[.agg #[.int .i8 x, .int .i8 y]] w fun e w' => e = .returned (.string (bsT (decL x ++ ([32] ++ decL y)))) ∧ Below w.heap.size w w' := by
  have H0 := Lib.hid (fun W => Decimal_any 100 x W (by omega) (by omega) (by omega))
  have H1 := Lib.hid (fun W => Decimal_any 100 y W (by omega) (by omega) (by omega))
  have l0 := decL_len2 (n := x) (by omega)
  have l1 := decL_len2 (n := y) (by omega)
  have i0 : IntKind.i64.wrap x = x := IntWalk.i64_in _ (by omega)
  have i1 : IntKind.i64.wrap y = y := IntWalk.i64_in _ (by omega)
  obtain ⟨D0, hD0⟩ : ∃ D, bsT (decL x) = D := ⟨_, rfl⟩
  obtain ⟨D1, hD1⟩ : ∃ D, bsT (decL y) = D := ⟨_, rfl⟩
  have s0 : D0.size ≤ 2 := by rw [← hD0, bsT_size]; exact l0
  have s1 : D1.size ≤ 2 := by rw [← hD1, bsT_size]; exact l1
  rw [hD0] at H0
  rw [hD1] at H1
  have HST := Lib.hid (show bsT (decL x ++ ([32] ++ decL y)) = D0 ++ ⟨#[32]⟩ ++ D1 by
    rw [← hD0, ← hD1, show (⟨#[32]⟩ : ByteArray) = bsT [32] from rfl, bsT_app, bsT_app]
    simp)
  have z1 : ¬ 9223372036854775807 < D0.size + 1 := by omega
  have z2 : ¬ 9223372036854775807 < D0.size + 1 + D1.size := by omega
  obtain ⟨W0, hW⟩ : ∃ z, w.alloc (.cells #[.int .i8 x, .int .i8 y] 45) = z := ⟨_, rfl⟩
  have HK := Lib.hid (show Below w.heap.size w W0 by rw [← hW]; exact kAlloc (Below.refl _ _) _)
  have bX : W0.heap[w.heap.size]? = some (.cells #[.int .i8 x, .int .i8 y] 45 (0, 0)) := by rw [← hW]; exact nNewX _ _
  have lbb := blk_lt bX
  obtain ⟨bb, hbb⟩ : ∃ z, w.heap.size = z := ⟨_, rfl⟩
  rw [hbb] at bX lbb
  have a0 : W0.cell? ⟨bb, 0, none⟩ = some (.int .i8 x) := cell_of_row _ _ 0 _ _ _ bX
  have a1 : W0.cell? ⟨bb, 1, none⟩ = some (.int .i8 y) := cell_of_row _ _ 1 _ _ _ bX
  have HW := Lib.hid hW
  have HBB := Lib.hid hbb
  clear hW bX hbb hD0 hD1 l0 l1
  go_enter Tryd.func96, Tryd.ntmps96
  go_upto_region 1 with fail
  try rw [HW.out]
  try rw [HBB.out]
  clear HW HBB
  refine wp_region_class (fun w' => Below W0.heap.size W0 w') (by kernel_rfl) (by kernel_rfl) (Below.drew (Below.refl _ _)) ?_
  repeat (first
    | go_big_quiet_skip
    | (go_big_quiet_want; go_big_quiet_op; go_big_quiet_on)
    | (refine wpQuiet_step (fun K hK => ?_)
       go_simp
       refine hK _ ?_
       clear hK K)
    | (refine wpQuiet_step (fun K hK => ?_)
       go_simp
       apply Exists.intro
       refine ⟨fun w1 hw1 => ?_, hK _ ?_⟩
       · first
         | exact rfl
         | (go_at_call 82
            (with_reducible refine (H0.out _).mono ?_)
            exact fun e w2 h => ⟨h.1, kTrans hw1 h.2⟩)
         | (go_at_call 82
            (with_reducible refine (H1.out _).mono ?_)
            exact fun e w2 h => ⟨h.1, kTrans hw1 h.2⟩)
         | (have d0 := (hw1.cell (p := ⟨bb, 0, none⟩) lbb).trans a0
            have d1 := (hw1.cell (p := ⟨bb, 1, none⟩) lbb).trans a1
            go_simp
            exact rfl)
       clear hK K))
  refine wpQuiet_nil ?_
  intro w1 hb1
  have T1 := Lib.hid (kTrans HK.out hb1)
  clear hb1 a0 a1 H0 H1
  go_wp2
  go_ret
  exact ⟨congrArg (fun z => Ending.returned (Value.string z)) HST.out.symm, T1.out⟩
set_option maxRecDepth 100000 in
set_option maxHeartbeats 16000000 in
theorem l03Text_any (bb b k q n0 n1 n2 : Nat) (wd hi : Int) (l : List Pc) (p : List Po) (c : List Cl) (w : World) (hn0 : l.length = n0) (hn1 : p.length = n1) (hn2 : c.length = n2)
    (hm : McAt w bb wd hi (.slice (some ⟨b, 0, none⟩) n0 n0) (.slice (some ⟨k, 0, none⟩) n1 n1) (.slice (some ⟨q, 0, none⟩) n2 n2)) (hp : PcsAt w b 0 l) (hg : PosAt w k 0 p) (hj : ClsAt w q 0 c) (zb : b < w.heap.size) (zk : k < w.heap.size) (zq : q < w.heap.size) (hR : machOk wd hi l p c = true) (S : ByteArray) (hS : bsT (mtL wd hi l p c) = S) :
    Calls Tryd.prog 72 #[.pointer (some ⟨bb, 0, none⟩)] w fun e w' => e = .returned (.string S) ∧ Below w.heap.size w w' := by
  have hpt := mx_parts hR
  have lbb := hm.lt
  have HBO := Lib.hid hpt.1
  have hm60 : l.length ≤ 60 := hpt.2.1
  have hn6 : p.length ≤ 6 := hpt.2.2.1
  have hr8 : c.length ≤ 8 := hpt.2.2.2.1
  have HPI := Lib.hid hpt.2.2.2.2.1
  have HCI := Lib.hid hpt.2.2.2.2.2
  have hm1 : n1 ≤ 6 := by omega
  have hm2 : n2 ≤ 8 := by omega
  have HB := Lib.hid (l01Text_any bb b n0 wd hi l w hn0 ⟨hm.1, hm.2.1, hm.2.2.1⟩ hp zb hpt.1 (bsT (bdL wd hi l)) rfl)
  have HM := Lib.hid (fun W2 (h2 : Below w.heap.size w W2) => hm.below h2 lbb)
  have HG := Lib.hid (fun W2 (h2 : Below w.heap.size w W2) => hg.below h2 zk)
  have HC := Lib.hid (fun W2 (h2 : Below w.heap.size w W2) => hj.below h2 zq)
  have Hn1 := Lib.hid hn1
  have Hn2 := Lib.hid hn2
  have HS := Lib.hid hS
  have HST := Lib.hid (show bsT (mtL wd hi l (p.take 0) []) = bsT (bdL wd hi l) by rw [mtL_zero])
  clear hn0 hn1 hn2 hm hp hg hj hR hS hpt
  go_enter Tryd.func72, Tryd.ntmps72
  go_wp2_with fail
  refine HB.out.mono ?_
  rintro e w1 ⟨rfl, hb1⟩
  have HB1 := Lib.hid hb1
  clear hb1 HB
  obtain ⟨B0, hB0⟩ : ∃ z, bsT (bdL wd hi l) = z := ⟨_, rfl⟩
  rw [hB0] at HST ⊢
  clear hB0
  go_wp2
  go_loopw [3, 4] (fun s i wr => ∃ (j : Nat) (O : ByteArray), j ≤ n1 ∧ i = .int .i64 j ∧ s = .string O ∧ Hid (bsT (mtL wd hi l (p.take j) []) = O) ∧ Hid (Below w.heap.size w wr)) (fun _ i _ => n1 - (intOf i).toNat)
  case atStart => exact ⟨0, _, by omega, rfl, rfl, HST, HB1⟩
  case round =>
    clear HST HB1
    obtain ⟨j, O, hj, rfl, rfl, hO, hB⟩ := hrel
    have hmc := HM.out _ hB.out
    have x3 := hmc.2.2.2.1
    have lx := hmc.lt
    by_cases hlt : j < n1
    · have hlk : j < p.length := by rw [Hn1.out]; exact hlt
      obtain ⟨p_, hpj⟩ : ∃ p_, p[j] = p_ := ⟨_, rfl⟩
      have hin := HPI.out p_ (by rw [← hpj]; exact List.getElem_mem hlk)
      have hll := mtL_len HBO.out hm60 (p := p.take j) (c := []) (by rw [List.length_take]; omega) (by simp) (take_mem_in HPI.out j) (fun x h => absurd h (by simp))
      have hOs : O.size ≤ 8000 := by rw [← hO.out, bsT_size]; omega
      have HNX := Lib.hid (show mtL wd hi l (p.take (j + 1)) [] = mtL wd hi l (p.take j) [] ++ inLine p_ by rw [mtL_in wd hi l hlk, hpj])
      have hpc := (show PoAt wr k (0 + j * 3) p_ by have h := HG.out wr hB.out j hlk; rw [hpj] at h; exact h)
      rw [Nat.zero_add] at hpc
      have zk2 := Nat.lt_of_lt_of_le zk hB.out.size
      unfold poIn at hin
      have HX := Lib.hid (fun W => l03Cell_any p_.x p_.y W (by omega) (by omega) (by omega) (by omega))
      obtain ⟨sn, hkn⟩ : ∃ sn : Nat, p_.side = sn := ⟨p_.side.toNat, by omega⟩
      have hk6 : sn < 4 := by omega
      have HPL := Lib.hid (show inLine p_ = lineL [[105, 110], decL p_.x, decL p_.y, sideWL (sn : Int)] by unfold inLine inWs; rw [hkn])
      obtain ⟨px, py, ps⟩ := p_
      simp only at hin hkn HX
      subst hkn
      have lx1 := decL_len2 (n := px) (by omega)
      have ly1 := decL_len2 (n := py) (by omega)
      have lk1 := sideWL_len (sn : Int)
      obtain ⟨CC, hCC⟩ : ∃ D, bsT (decL px ++ ([32] ++ decL py)) = D := ⟨_, rfl⟩
      obtain ⟨KW, hKW⟩ : ∃ D, bsT (sideWL (sn : Int)) = D := ⟨_, rfl⟩
      have sC : CC.size ≤ 5 := by rw [← hCC, bsT_size]; simp only [List.length_append, List.length_cons, List.length_nil]; omega
      have sK : KW.size ≤ 6 := by rw [← hKW, bsT_size]; exact Nat.le_trans lk1 (by omega)
      rw [hCC] at HX
      have HKW := Lib.hid hKW
      obtain ⟨V0, e0⟩ : ∃ z, (⟨#[105, 110, 32]⟩ : ByteArray) ++ CC = z := ⟨_, rfl⟩
      have E0 := Lib.hid e0
      have y0 : V0.size = 3 + CC.size := by rw [← e0, ByteArray.size_append]; rfl
      have z0 : ¬ 9223372036854775807 < 3 + CC.size := by omega
      obtain ⟨V1, e1⟩ : ∃ z, V0 ++ ⟨#[32]⟩ = z := ⟨_, rfl⟩
      have E1 := Lib.hid e1
      have y1 : V1.size = V0.size + 1 := by rw [← e1, ByteArray.size_append]; rfl
      have z1 : ¬ 9223372036854775807 < V0.size + 1 := by omega
      obtain ⟨V2, e2⟩ : ∃ z, V1 ++ KW = z := ⟨_, rfl⟩
      have E2 := Lib.hid e2
      have y2 : V2.size = V1.size + KW.size := by rw [← e2, ByteArray.size_append]
      have z2 : ¬ 9223372036854775807 < V1.size + KW.size := by omega
      obtain ⟨V3, e3⟩ : ∃ z, V2 ++ ⟨#[10]⟩ = z := ⟨_, rfl⟩
      have E3 := Lib.hid e3
      have y3 : V3.size = V2.size + 1 := by rw [← e3, ByteArray.size_append]; rfl
      have z3 : ¬ 9223372036854775807 < V2.size + 1 := by omega
      obtain ⟨V4, e4⟩ : ∃ z, O ++ V3 = z := ⟨_, rfl⟩
      have E4 := Lib.hid e4
      have y4 : V4.size = O.size + V3.size := by rw [← e4, ByteArray.size_append]
      have z4 : ¬ 9223372036854775807 < O.size + V3.size := by omega
      have HN : Hid (bsT (mtL wd hi l (p.take (j + 1)) []) = V4) := Lib.hid (by
        rw [HNX.out, HPL.out, ← bsT_app, hO.out, ← e4, ← e3, ← e2, ← e1, ← e0, ← hCC, ← hKW, show (⟨#[32]⟩ : ByteArray) = bsT [32] from rfl, show (⟨#[10]⟩ : ByteArray) = bsT [10] from rfl, show (⟨#[105, 110, 32]⟩ : ByteArray) = bsT [105, 110, 32] from rfl]
        simp only [bsT_app]
        unfold lineL
        rw [join4]
        simp)
      clear HNX HPL hO hpj hin hCC hKW lx1 ly1 lk1 hll sC sK hOs
      clear y0 e0 y1 e1 y2 e2 y3 e3 y4 e4
      have hS0 : SmP bb k j n1 px py (sn : Int) wr := ⟨x3, lx, hpc, zk2⟩
      have hk60 : (sn : Int) < 4 := by omega
      have hltI : (j : Int) < n1 := by omega
      go_upto_region 5 with fail
      clear hpc zk2 x3 lx hmc
      refine regionW_of_HX (fun w' => SmP bb k j n1 px py (sn : Int) w') (by kernel_rfl) hS0 (fun hHeld => ?_)
      have K0 := Lib.hid (show Below wr.heap.size wr wr.drew from Below.drew (Below.refl _ _))
      clear hS0
      obtain ⟨W, hW⟩ : ∃ W, wr.drew = W := ⟨_, rfl⟩
      rw [hW] at K0 hHeld ⊢
      clear hW
      refine wpAnyH_take (i := 0) (v := .string O) rfl (by kernel_rfl) (by kernel_rfl) (by kernel_rfl) (fun _ _ _ h => absurd h.1 (by simp)) (Or.inl ⟨by rfl, fun w7 hSw => ?_⟩) (by assumption) ?_
      · clear hSw
        go_simp
      try simp only [Act.put, List.setIfInBounds_toArray, List.set_cons_zero, List.set_cons_succ]
      refine wpAnyH_take (i := 1) (v := .pointer (some ⟨bb, 0, none⟩)) rfl (by kernel_rfl) (by kernel_rfl) (by kernel_rfl) (fun _ _ _ h => absurd h.1 (by simp)) (Or.inl ⟨by rfl, fun w7 hSw => ?_⟩) (by assumption) ?_
      · clear hSw
        go_simp
      try simp only [Act.put, List.setIfInBounds_toArray, List.set_cons_zero, List.set_cons_succ]
      refine wpAnyH_take (i := 2) (v := .pointer (some ⟨bb, 0, none⟩)) rfl (by kernel_rfl) (by kernel_rfl) (by kernel_rfl) (fun _ _ _ h => absurd h.1 (by simp)) (Or.inl ⟨by rfl, fun w7 hSw => ?_⟩) (by assumption) ?_
      · clear hSw
        go_simp
      try simp only [Act.put, List.setIfInBounds_toArray, List.set_cons_zero, List.set_cons_succ]
      refine wpAnyH_take (i := 3) (v := .pointer (some ⟨bb, 3, none⟩)) rfl (by kernel_rfl) (by kernel_rfl) (by kernel_rfl) (fun _ _ _ h => absurd h.1 (by simp)) (Or.inl ⟨by rfl, fun w7 hSw => ?_⟩) (by assumption) ?_
      · clear hSw
        go_simp
      try simp only [Act.put, List.setIfInBounds_toArray, List.set_cons_zero, List.set_cons_succ]
      refine wpAnyH_take (i := 4) (v := .slice (some ⟨k, 0, none⟩) n1 n1) rfl (by kernel_rfl) (by kernel_rfl) (by kernel_rfl) (fun _ _ _ h => absurd h.1 (by simp)) (Or.inl ⟨by rfl, fun w7 hSw => ?_⟩) (by assumption) ?_
      · obtain ⟨m3_, lb_, ⟨a0, a1, a2⟩, lk_⟩ := hSw
        go_simp
      try simp only [Act.put, List.setIfInBounds_toArray, List.set_cons_zero, List.set_cons_succ]
      refine wpAnyH_take (i := 5) (v := .int .i64 j) rfl (by kernel_rfl) (by kernel_rfl) (by kernel_rfl) (fun _ _ _ h => absurd h.1 (by simp)) (Or.inl ⟨by rfl, fun w7 hSw => ?_⟩) (by assumption) ?_
      · clear hSw
        go_simp
      try simp only [Act.put, List.setIfInBounds_toArray, List.set_cons_zero, List.set_cons_succ]
      refine wpAnyH_take (i := 6) (v := .pointer (some ⟨k, j * 3, none⟩)) rfl (by kernel_rfl) (by kernel_rfl) (by kernel_rfl) (fun _ _ _ h => absurd h.1 (by simp)) (Or.inl ⟨by rfl, fun w7 hSw => ?_⟩) (by assumption) ?_
      · clear hSw
        go_simp
      try simp only [Act.put, List.setIfInBounds_toArray, List.set_cons_zero, List.set_cons_succ]
      refine wpAnyH_take (i := 7) (v := .pointer (some ⟨k, j * 3, none⟩)) rfl (by kernel_rfl) (by kernel_rfl) (by kernel_rfl) (fun _ _ _ h => absurd h.1 (by simp)) (Or.inl ⟨by rfl, fun w7 hSw => ?_⟩) (by assumption) ?_
      · clear hSw
        go_simp
      try simp only [Act.put, List.setIfInBounds_toArray, List.set_cons_zero, List.set_cons_succ]
      refine wpAnyH_take (i := 8) (v := .agg #[.int .i8 px, .int .i8 py]) rfl (by kernel_rfl) (by kernel_rfl) (by kernel_rfl) (fun _ _ _ h => absurd h.1 (by simp)) (Or.inl ⟨by rfl, fun w7 hSw => ?_⟩) (by assumption) ?_
      · obtain ⟨m3_, lb_, ⟨a0, a1, a2⟩, lk_⟩ := hSw
        go_simp
      try simp only [Act.put, List.setIfInBounds_toArray, List.set_cons_zero, List.set_cons_succ]
      refine wpAnyH_take (i := 13) (v := .pointer (some ⟨bb, 0, none⟩)) rfl (by kernel_rfl) (by kernel_rfl) (by kernel_rfl) (fun _ _ _ h => absurd h.1 (by simp)) (Or.inl ⟨by rfl, fun w7 hSw => ?_⟩) (by assumption) ?_
      · clear hSw
        go_simp
      try simp only [Act.put, List.setIfInBounds_toArray, List.set_cons_zero, List.set_cons_succ]
      refine wpAnyH_take (i := 14) (v := .pointer (some ⟨bb, 0, none⟩)) rfl (by kernel_rfl) (by kernel_rfl) (by kernel_rfl) (fun _ _ _ h => absurd h.1 (by simp)) (Or.inl ⟨by rfl, fun w7 hSw => ?_⟩) (by assumption) ?_
      · clear hSw
        go_simp
      try simp only [Act.put, List.setIfInBounds_toArray, List.set_cons_zero, List.set_cons_succ]
      refine wpAnyH_take (i := 15) (v := .pointer (some ⟨bb, 3, none⟩)) rfl (by kernel_rfl) (by kernel_rfl) (by kernel_rfl) (fun _ _ _ h => absurd h.1 (by simp)) (Or.inl ⟨by rfl, fun w7 hSw => ?_⟩) (by assumption) ?_
      · clear hSw
        go_simp
      try simp only [Act.put, List.setIfInBounds_toArray, List.set_cons_zero, List.set_cons_succ]
      refine wpAnyH_take (i := 16) (v := .slice (some ⟨k, 0, none⟩) n1 n1) rfl (by kernel_rfl) (by kernel_rfl) (by kernel_rfl) (fun _ _ _ h => absurd h.1 (by simp)) (Or.inl ⟨by rfl, fun w7 hSw => ?_⟩) (by assumption) ?_
      · obtain ⟨m3_, lb_, ⟨a0, a1, a2⟩, lk_⟩ := hSw
        go_simp
      try simp only [Act.put, List.setIfInBounds_toArray, List.set_cons_zero, List.set_cons_succ]
      refine wpAnyH_take (i := 17) (v := .int .i64 j) rfl (by kernel_rfl) (by kernel_rfl) (by kernel_rfl) (fun _ _ _ h => absurd h.1 (by simp)) (Or.inl ⟨by rfl, fun w7 hSw => ?_⟩) (by assumption) ?_
      · clear hSw
        go_simp
      try simp only [Act.put, List.setIfInBounds_toArray, List.set_cons_zero, List.set_cons_succ]
      refine wpAnyH_take (i := 18) (v := .pointer (some ⟨k, j * 3, none⟩)) rfl (by kernel_rfl) (by kernel_rfl) (by kernel_rfl) (fun _ _ _ h => absurd h.1 (by simp)) (Or.inl ⟨by rfl, fun w7 hSw => ?_⟩) (by assumption) ?_
      · clear hSw
        go_simp
      try simp only [Act.put, List.setIfInBounds_toArray, List.set_cons_zero, List.set_cons_succ]
      refine wpAnyH_take (i := 19) (v := .pointer (some ⟨k, j * 3 + 2, none⟩)) rfl (by kernel_rfl) (by kernel_rfl) (by kernel_rfl) (fun _ _ _ h => absurd h.1 (by simp)) (Or.inl ⟨by rfl, fun w7 hSw => ?_⟩) (by assumption) ?_
      · clear hSw
        go_simp
      try simp only [Act.put, List.setIfInBounds_toArray, List.set_cons_zero, List.set_cons_succ]
      refine wpAnyH_take (i := 20) (v := .int .i8 (sn : Int)) rfl (by kernel_rfl) (by kernel_rfl) (by kernel_rfl) (fun _ _ _ h => absurd h.1 (by simp)) (Or.inl ⟨by rfl, fun w7 hSw => ?_⟩) (by assumption) ?_
      · obtain ⟨m3_, lb_, ⟨a0, a1, a2⟩, lk_⟩ := hSw
        go_simp
      try simp only [Act.put, List.setIfInBounds_toArray, List.set_cons_zero, List.set_cons_succ]
      refine wpAnyH_ready (rs := [9]) (by kernel_rfl) (by simp) ?_
      refine AllReadyH.cons rfl (fun K hK => ?_) AllReadyH.nil
      · skip
        go_simp
        go_wp2_with (go_at_call 96
                     refine (HX.out W).mono ?_
                     rintro e xt1 ⟨rfl, kt1⟩
                     have Kt1 := Lib.hid (kTrans K0.out kt1)
                     have St1 := Lib.hid (show SmP bb k j n1 px py (sn : Int) xt1 from hHeld.below kt1))
        refine hK.out _ _ St1.out (fun hHeld1 => ?_)
        clear hK K kt1
        refine wpAnyH_take (i := 10) (v := .string V0) rfl (by kernel_rfl) (by kernel_rfl) (by kernel_rfl) (fun _ _ _ h => absurd h.1 (by simp)) (Or.inl ⟨by rfl, fun w7 hSw => ?_⟩) (by assumption) ?_
        · clear hSw
          have hv_ := E0.out
          go_simp
          first | done | rw [hv_]
        try simp only [Act.put, List.setIfInBounds_toArray, List.set_cons_zero, List.set_cons_succ]
        refine wpAnyH_take (i := 11) (v := .string V1) rfl (by kernel_rfl) (by kernel_rfl) (by kernel_rfl) (fun _ _ _ h => absurd h.1 (by simp)) (Or.inl ⟨by rfl, fun w7 hSw => ?_⟩) (by assumption) ?_
        · clear hSw
          have hv_ := E1.out
          go_simp
          first | done | rw [hv_]
        try simp only [Act.put, List.setIfInBounds_toArray, List.set_cons_zero, List.set_cons_succ]
        refine wpAnyH_ready (rs := [12]) (by kernel_rfl) (by simp) ?_
        refine AllReadyH.cons rfl (fun K hK => ?_) AllReadyH.nil
        · skip
          go_simp
          go_wp2_with (go_at_call 89
                       refine (l02SidesM_any xt1).mono ?_
                       rintro e xt2 ⟨g2, rfl, hw6, kt2⟩
                       have wl2 := Lib.hid hw6
                       have Kt2 := Lib.hid (kTrans Kt1.out kt2)
                       have St2 := Lib.hid (show SmP bb k j n1 px py (sn : Int) xt2 from hHeld1.below kt2)
                       clear hw6)
          refine hK.out _ _ St2.out (fun hHeld2 => ?_)
          clear hK K kt2
          refine wpAnyH_take (i := 21) (v := .pointer (some ⟨g2, sn, none⟩)) rfl (by kernel_rfl) (by kernel_rfl) (by kernel_rfl) (fun _ _ _ h => absurd h.1 (by simp)) (Or.inl ⟨by rfl, fun w7 hSw => ?_⟩) (by assumption) ?_
          · clear hSw
            go_simp
          try simp only [Act.put, List.setIfInBounds_toArray, List.set_cons_zero, List.set_cons_succ]
          refine wpAnyH_ready (rs := [22]) (by kernel_rfl) (by simp) ?_
          refine AllReadyH.cons rfl (fun K hK => ?_) AllReadyH.nil
          · skip
            have cw3 := (wl2.out.1 sn hk6).trans (congrArg (fun z => some (Value.string z)) HKW.out)
            have lw3 := wl2.out.2
            go_simp
            refine hK.out _ _ hHeld2 (fun hHeld3 => ?_)
            clear hK K cw3 lw3
            refine wpAnyH_take (i := 23) (v := .string V2) rfl (by kernel_rfl) (by kernel_rfl) (by kernel_rfl) (fun _ _ _ h => absurd h.1 (by simp)) (Or.inl ⟨by rfl, fun w7 hSw => ?_⟩) (by assumption) ?_
            · clear hSw
              have hv_ := E2.out
              go_simp
              first | done | rw [hv_]
            try simp only [Act.put, List.setIfInBounds_toArray, List.set_cons_zero, List.set_cons_succ]
            refine wpAnyH_take (i := 24) (v := .string V3) rfl (by kernel_rfl) (by kernel_rfl) (by kernel_rfl) (fun _ _ _ h => absurd h.1 (by simp)) (Or.inl ⟨by rfl, fun w7 hSw => ?_⟩) (by assumption) ?_
            · clear hSw
              have hv_ := E3.out
              go_simp
              first | done | rw [hv_]
            try simp only [Act.put, List.setIfInBounds_toArray, List.set_cons_zero, List.set_cons_succ]
            refine wpAnyH_take (i := 25) (v := .string V4) rfl (by kernel_rfl) (by kernel_rfl) (by kernel_rfl) (fun _ _ _ h => absurd h.1 (by simp)) (Or.inl ⟨by rfl, fun w7 hSw => ?_⟩) (by assumption) ?_
            · clear hSw
              have hv_ := E4.out
              go_simp
              first | done | rw [hv_]
            try simp only [Act.put, List.setIfInBounds_toArray, List.set_cons_zero, List.set_cons_succ]
            refine wpAnyH_ready (rs := [26]) (by kernel_rfl) (by simp) ?_
            refine AllReadyH.cons rfl (fun K hK => ?_) AllReadyH.nil
            · skip
              go_simp
              refine hK.out _ _ hHeld3 (fun hHeld => ?_)
              clear hK K
              refine wpAnyH_done (by kernel_rfl) ?_ _
              refine ⟨rfl, ?_⟩
              clear hHeld
              go_wp2
              exact ⟨⟨j + 1, V4, by omega, by go_num, rfl, HN, Lib.hid (kTrans hB.out Kt2.out)⟩, by simp [intOf]; omega⟩
    · obtain rfl : j = n1 := by omega
      have hO2 : Hid (bsT (mtL wd hi l p (c.take 0)) = O) := Lib.hid (by have h := hO.out; rw [List.take_of_length_le (by rw [Hn1.out]; exact Nat.le_refl _)] at h; exact h)
      clear hO
      have HB2 := hB
      have x4 := hmc.2.2.2.2
      clear hB
      go_wp2
      go_loopw [3, 5] (fun s i wr2 => ∃ (j2 : Nat) (O2 : ByteArray), j2 ≤ n2 ∧ i = .int .i64 j2 ∧ s = .string O2 ∧ Hid (bsT (mtL wd hi l p (c.take j2)) = O2) ∧ Hid (Below w.heap.size w wr2)) (fun _ i _ => n2 - (intOf i).toNat)
      case atStart => exact ⟨0, _, by omega, rfl, rfl, hO2, HB2⟩
      case round =>
        clear hO2 HB2 x4 x3 lx hmc hlt
        obtain ⟨j2, O2, hj2, rfl, rfl, hO, hB⟩ := hrel
        have hmc := HM.out _ hB.out
        have x4 := hmc.2.2.2.2
        have lx := hmc.lt
        by_cases hlt : j2 < n2
        · have hlk : j2 < c.length := by rw [Hn2.out]; exact hlt
          obtain ⟨p_, hpj⟩ : ∃ p_, c[j2] = p_ := ⟨_, rfl⟩
          have hin := HCI.out p_ (by rw [← hpj]; exact List.getElem_mem hlk)
          have hll := mtL_len HBO.out hm60 (p := p) (c := c.take j2) hn6 (by rw [List.length_take]; omega) HPI.out (take_mem_in HCI.out j2)
          have hOs : O2.size ≤ 8000 := by rw [← hO.out, bsT_size]; omega
          have HNX := Lib.hid (show mtL wd hi l p (c.take (j2 + 1)) = mtL wd hi l p (c.take j2) ++ outLine p_ by rw [mtL_out wd hi l p hlk, hpj])
          obtain ⟨a0, a1⟩ := (show ClAt wr q (0 + j2 * 2) p_ by have h := HC.out wr hB.out j2 hlk; rw [hpj] at h; exact h)
          simp only [Nat.zero_add] at a0 a1
          have zq2 := Nat.lt_of_lt_of_le zq hB.out.size
          unfold clIn at hin
          have HX := Lib.hid (fun W => l03Cell_any p_.x p_.y W (by omega) (by omega) (by omega) (by omega))
          have HPL := Lib.hid (show outLine p_ = lineL [[111, 117, 116], decL p_.x, decL p_.y] from rfl)
          obtain ⟨px, py⟩ := p_
          simp only at a0 a1 hin HX HPL
          have lx1 := decL_len2 (n := px) (by omega)
          have ly1 := decL_len2 (n := py) (by omega)
          obtain ⟨CC, hCC⟩ : ∃ D, bsT (decL px ++ ([32] ++ decL py)) = D := ⟨_, rfl⟩
          have sC : CC.size ≤ 5 := by rw [← hCC, bsT_size]; simp only [List.length_append, List.length_cons, List.length_nil]; omega
          rw [hCC] at HX
          have z0 : ¬ 9223372036854775807 < 4 + CC.size := by omega
          have z1 : ¬ 9223372036854775807 < 4 + CC.size + 1 := by omega
          have z2 : ¬ 9223372036854775807 < O2.size + (4 + CC.size + 1) := by omega
          have HN : Hid (bsT (mtL wd hi l p (c.take (j2 + 1))) = O2 ++ ((⟨#[111, 117, 116, 32]⟩ : ByteArray) ++ CC ++ ⟨#[10]⟩)) := Lib.hid (by
            rw [HNX.out, HPL.out, ← bsT_app, hO.out, ← hCC, show (⟨#[10]⟩ : ByteArray) = bsT [10] from rfl, show (⟨#[111, 117, 116, 32]⟩ : ByteArray) = bsT [111, 117, 116, 32] from rfl]
            simp only [bsT_app]
            unfold lineL
            rw [join3]
            simp)
          clear HNX HPL hO hpj hin hCC lx1 ly1 hll sC hOs
          go_wp2_with fail
          refine (HX.out _).mono ?_
          rintro e w3 ⟨rfl, hb3⟩
          have HB3 := Lib.hid (kTrans hB.out hb3)
          clear hb3 HX
          go_wp2
          exact ⟨⟨j2 + 1, _, by omega, by go_num, rfl, HN, HB3⟩, by simp [intOf]; omega⟩
        · obtain rfl : j2 = n2 := by omega
          obtain rfl : O2 = S := by rw [← hO.out, ← HS.out, List.take_of_length_le (by rw [Hn2.out]; exact Nat.le_refl _)]
          clear hO HS
          go_wp2
          go_ret
          exact ⟨rfl, hB.out⟩
set_option maxRecDepth 100000 in
set_option maxHeartbeats 4000000 in
theorem specMachineText_any (b k q m n r : Nat) (wd hi : Int) (l : List Pc) (p : List Po) (c : List Cl) (w : World) (hp : PcsAt w b 0 l) (hg : PosAt w k 0 p) (hj : ClsAt w q 0 c) (zb : b < w.heap.size) (zk : k < w.heap.size) (zq : q < w.heap.size) (hm : l.length = m) (hn : p.length = n) (hr : c.length = r) (h8 : All8 l) (hw : PosWf p) (bw : i8 wd) (bh : i8 hi) (m0 : m ≤ 1048576) (m1 : n ≤ 1048576) (m2 : r ≤ 1048576) (R : Bool) (hR : R = machOk wd hi l p c) (S : ByteArray) (hS : bsT (mxQ R wd hi l p c) = S) :
    Calls Tryd.prog 33 #[.agg #[.int .i8 wd, .int .i8 hi, .slice (some ⟨b, 0, none⟩) m m, .slice (some ⟨k, 0, none⟩) n n, .slice (some ⟨q, 0, none⟩) r r]] w fun e w' => e = .returned (.string S) ∧ Below w.heap.size w w' := by
  obtain ⟨W0, hW⟩ : ∃ W0, w.alloc (.cells #[.int .i8 wd, .int .i8 hi, .slice (some ⟨b, 0, none⟩) m m, .slice (some ⟨k, 0, none⟩) n n, .slice (some ⟨q, 0, none⟩) r r] 73) = W0 := ⟨_, rfl⟩
  have k0 : Below w.heap.size w W0 := by rw [← hW]; exact kAlloc (Below.refl _ _) _
  have hx : McAt W0 w.heap.size wd hi (.slice (some ⟨b, 0, none⟩) m m) (.slice (some ⟨k, 0, none⟩) n n) (.slice (some ⟨q, 0, none⟩) r r) := by rw [← hW]; exact McAt.box w _ _ _ _ _ 73
  have zbW : b < W0.heap.size := Nat.lt_of_lt_of_le zb k0.size
  have zkW : k < W0.heap.size := Nat.lt_of_lt_of_le zk k0.size
  have zqW : q < W0.heap.size := Nat.lt_of_lt_of_le zq k0.size
  have HV := Lib.hid (l03Ok_any w.heap.size b k q m n r wd hi l p c W0 hm hn hr hx (hp.below k0 zb) (hg.below k0 zk) (hj.below k0 zq) zbW zkW zqW h8 hw bw bh m0 m1 m2 R hR)
  have HT := Lib.hid (fun W2 (h2 : Below W0.heap.size W0 W2) (h : R = true) => l03Text_any w.heap.size b k q m n r wd hi l p c W2 hm hn hr (hx.below h2 hx.lt) (hp.below (kTrans k0 h2) zb) (hg.below (kTrans k0 h2) zk) (hj.below (kTrans k0 h2) zq) (Nat.lt_of_lt_of_le zbW h2.size) (Nat.lt_of_lt_of_le zkW h2.size) (Nat.lt_of_lt_of_le zqW h2.size) (hR ▸ h) S (by rw [← hS]; unfold mxQ; rw [if_pos h]))
  have HK0 := Lib.hid k0
  have HW := Lib.hid hW
  have HS := Lib.hid hS
  clear hn hm hr hp hg hj zb zk zq h8 hw hR hS hW hx k0 bw bh zbW zkW zqW
  go_enter Tryd.func33, Tryd.ntmps33
  go_upto_region 1 with fail
  try rw [HW.out]
  go_wp2_with fail
  refine HV.out.mono ?_
  rintro e w1 ⟨rfl, hb1⟩
  have HB1 := Lib.hid hb1
  clear hb1 HV HW
  cases R with
  | false =>
    obtain rfl : (⟨#[]⟩ : ByteArray) = S := by rw [← HS.out]; rfl
    clear HS HT
    go_wp2
    go_ret
    exact ⟨rfl, kTrans HK0.out HB1.out⟩
  | true =>
    go_wp2_with fail
    refine (HT.out _ HB1.out (by trivial)).mono ?_
    rintro e w2 ⟨rfl, hb2⟩
    have T2 := Lib.hid (kTrans HK0.out (kTrans HB1.out hb2))
    clear hb2 HT HS
    go_wp2
    go_ret
    exact ⟨rfl, T2.out⟩
end Go.Proofs.YtmllfacgonchnaaDoor
