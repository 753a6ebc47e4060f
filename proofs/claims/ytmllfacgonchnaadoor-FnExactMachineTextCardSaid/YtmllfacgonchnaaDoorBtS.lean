/- BoardText: the model. -/
import Derived.Test.YtmllfacgonchnaaDoorBt0
namespace Go.Proofs.YtmllfacgonchnaaDoor
open Go.ChangeShapes Go.WideShapes Go.ChangeAt Go.RowKit Go.Joins Go.Deep
set_option linter.unusedVariables false
set_option linter.unusedSimpArgs false

def SxP (b j : Nat) (px py pk pt pd : Int) (w : World) : Prop := PcAt w b (j * 5) ⟨px, py, pk, pt, pd⟩ ∧ b < w.heap.size
theorem SxP.below {b j : Nat} {px py pk pt pd : Int} {w w' : World} (h : SxP b j px py pk pt pd w) (g : Below w.heap.size w w') : SxP b j px py pk pt pd w' := ⟨h.1.below g h.2, Nat.lt_of_lt_of_le h.2 g.size⟩
def W6 (w : World) (g : Nat) : Prop := (∀ k : Nat, k < 6 → w.cell? ⟨g, k, none⟩ = some (.string (bsT (kindWL (k : Int))))) ∧ g < w.heap.size
theorem W6.below {w w' : World} {g : Nat} (h : W6 w g) (b : Below w.heap.size w w') : W6 w' g := ⟨fun k hk => (b.cell (p := ⟨g, k, none⟩) h.2).trans (h.1 k hk), Nat.lt_of_lt_of_le h.2 b.size⟩
theorem l01Words_any (w : World) : Calls Tryd.prog 83 #[] w fun e w' => ∃ g, e = .returned (.slice (some ⟨g, 0, none⟩) 6 6) ∧ W6 w' g ∧ Below w.heap.size w w' := by
  go_enter Tryd.func83, Tryd.ntmps83
  go_wp2
  go_ret
  refine ⟨w.heap.size, rfl, ⟨fun k hk => ?_, by simp⟩, by repeat (first | with_reducible exact Below.refl _ _ | (with_reducible refine kSet ?_ ?hB _; case hB => (simp; try omega)) | with_reducible refine kAlloc ?_ _ | with_reducible refine Below.drew ?_ | with_reducible refine kDrewN ?_ _ | with_reducible refine kTrans ?_ (by assumption))⟩
  rw [cell_of_row _ _ k _ _ _ (nNewX _ _)]
  have hc : k = 0 ∨ k = 1 ∨ k = 2 ∨ k = 3 ∨ k = 4 ∨ k = 5 := by omega
  rcases hc with rfl | rfl | rfl | rfl | rfl | rfl <;> rfl
set_option maxRecDepth 100000 in
set_option maxHeartbeats 16000000 in
theorem l01Text_any (bb b n : Nat) (wd hi : Int) (l : List Pc) (w : World) (hn : l.length = n) (hbd : BdAt w bb 0 wd hi (.slice (some ⟨b, 0, none⟩) n n)) (hp : PcsAt w b 0 l) (hb : b < w.heap.size) (hR : boardOk wd hi l = true) (S : ByteArray) (hS : bsT (bdL wd hi l) = S) :
    Calls Tryd.prog 39 #[.pointer (some ⟨bb, 0, none⟩)] w fun e w' => e = .returned (.string S) ∧ Below w.heap.size w w' := by
  have hs := bd_sides hR
  have hn200 : n ≤ 200 := by rw [← hn]; exact hs.2.2.2.2
  have HIN := Lib.hid (fun p (hp : p ∈ l) => pcIn_of hR hp)
  have H0 := Lib.hid (fun W => Decimal_any 100 wd W (by omega) (by omega) (by omega))
  have H1 := Lib.hid (fun W => Decimal_any 100 hi W (by omega) (by omega) (by omega))
  have HLL := Lib.hid (fun r (h : ∀ p ∈ r, pcIn p) => bdL_len (wd := wd) (hi := hi) (by omega) (by omega) r h)
  have l0 := decL_len2 (n := wd) (by omega)
  have l1 := decL_len2 (n := hi) (by omega)
  have i0 : IntKind.i64.wrap wd = wd := IntWalk.i64_in _ (by omega)
  have i1 : IntKind.i64.wrap hi = hi := IntWalk.i64_in _ (by omega)
  have HX0 := Lib.hid (fun W2 (h2 : Below w.heap.size w W2) => hbd.below h2 hbd.lt)
  have HP := Lib.hid (fun W2 (h2 : Below w.heap.size w W2) => hp.below h2 hb)
  have Hn := Lib.hid hn
  have HS := Lib.hid hS
  have lbb := hbd.lt
  obtain ⟨a0, a1, a2⟩ : w.cell? ⟨bb, 0, none⟩ = some (.int .i8 wd) ∧ w.cell? ⟨bb, 1, none⟩ = some (.int .i8 hi) ∧ w.cell? ⟨bb, 2, none⟩ = some (.slice (some ⟨b, 0, none⟩) n n) := hbd
  obtain ⟨D0, hD0⟩ : ∃ D, bsT (decL wd) = D := ⟨_, rfl⟩
  obtain ⟨D1, hD1⟩ : ∃ D, bsT (decL hi) = D := ⟨_, rfl⟩
  have s0 : D0.size ≤ 2 := by rw [← hD0, bsT_size]; exact l0
  have s1 : D1.size ≤ 2 := by rw [← hD1, bsT_size]; exact l1
  rw [hD0] at H0
  rw [hD1] at H1
  have HST := Lib.hid (show bsT (bdL wd hi (l.take 0)) = D0 ++ ⟨#[32]⟩ ++ D1 ++ ⟨#[10]⟩ by
    rw [bdL_zero, ← hD0, ← hD1, show (⟨#[32]⟩ : ByteArray) = bsT [32] from rfl, show (⟨#[10]⟩ : ByteArray) = bsT [10] from rfl, bsT_app, bsT_app, bsT_app]
    unfold lineL
    rw [join2]
    simp)
  have z1 : ¬ 9223372036854775807 < D0.size + 1 := by omega
  have z2 : ¬ 9223372036854775807 < D0.size + 1 + D1.size := by omega
  have z3 : ¬ 9223372036854775807 < D0.size + 1 + D1.size + 1 := by omega
  clear hn hp hR hS hD0 hD1 l0 l1 hs
  go_enter Tryd.func39, Tryd.ntmps39
  go_wp2_with fail
  refine wp_region_class (fun w' => Below w.heap.size w w') (by kernel_rfl) (by kernel_rfl) (Below.drew (Below.refl _ _)) ?_
  repeat (first
    | go_big_quiet_skip
    | (go_big_quiet_want; go_big_quiet_op; go_big_quiet_on)
    | (refine wpQuiet_step (fun K hK => ?_)
       go_simp
       refine hK _ ?_
       clear hK K)
    | (refine wpQuiet_step (fun K hK => ?_)
       go_simp
       apply Exists.intro
       refine ⟨fun w1 hw1 => ?_, hK _ ?_⟩
       · first
         | exact rfl
         | (go_at_call 82
            (with_reducible refine (H0.out _).mono ?_)
            exact fun e w2 h => ⟨h.1, kTrans hw1 h.2⟩)
         | (go_at_call 82
            (with_reducible refine (H1.out _).mono ?_)
            exact fun e w2 h => ⟨h.1, kTrans hw1 h.2⟩)
         | (have d0 := (hw1.cell (p := ⟨bb, 0, none⟩) lbb).trans a0
            have d1 := (hw1.cell (p := ⟨bb, 1, none⟩) lbb).trans a1
            go_simp
            exact rfl)
       clear hK K))
  refine wpQuiet_nil ?_
  intro w1 hb1
  have HB1 := Lib.hid hb1
  clear hb1 a0 a1 a2 H0 H1
  go_wp2
  go_loopw [3, 4, 5] (fun s i pp wr => ∃ (j : Nat) (O : ByteArray) (v : Value), j ≤ n ∧ i = .int .i64 j ∧ s = .string O ∧ pp = v ∧ Hid (bsT (bdL wd hi (l.take j)) = O) ∧ Hid (Below w.heap.size w wr)) (fun _ i _ _ => n - (intOf i).toNat)
  case atStart => exact ⟨0, _, _, by omega, rfl, rfl, rfl, HST, HB1⟩
  case round =>
    clear HST HB1 z1 z2 z3 s0 s1
    obtain ⟨j, O, v, hj, rfl, rfl, rfl, hO, hB⟩ := hrel
    obtain ⟨x0, x1, x2⟩ : wr.cell? ⟨bb, 0, none⟩ = some (.int .i8 wd) ∧ wr.cell? ⟨bb, 1, none⟩ = some (.int .i8 hi) ∧ wr.cell? ⟨bb, 2, none⟩ = some (.slice (some ⟨b, 0, none⟩) n n) := HX0.out _ hB.out
    have lx := Nat.lt_of_lt_of_le lbb hB.out.size
    by_cases hlt : j < n
    · have hlk : j < l.length := by rw [Hn.out]; exact hlt
      obtain ⟨p, hpj⟩ : ∃ p, l[j] = p := ⟨_, rfl⟩
      have hin := HIN.out p (by rw [← hpj]; exact List.getElem_mem hlk)
      have hll := HLL.out (l.take j) (fun q hq => HIN.out q (List.mem_of_mem_take hq))
      rw [List.length_take] at hll
      have hOs : O.size ≤ 8000 := by rw [← hO.out, bsT_size]; omega
      have HNX := Lib.hid (show bdL wd hi (l.take (j + 1)) = bdL wd hi (l.take j) ++ pcLine p by rw [bdL_succ wd hi hlk, hpj])
      have hpc := (show PcAt wr b (0 + j * 5) p by have h := HP.out wr hB.out j hlk; rw [hpj] at h; exact h)
      rw [Nat.zero_add] at hpc
      have zb := Nat.lt_of_lt_of_le hb hB.out.size
      unfold pcIn at hin
      have HX := Lib.hid (fun W => Decimal_any 100 p.x W (by omega) (by omega) (by omega))
      have HY := Lib.hid (fun W => Decimal_any 100 p.y W (by omega) (by omega) (by omega))
      have HT := Lib.hid (fun W => Decimal_any 100 p.turn W (by omega) (by omega) (by omega))
      have HD := Lib.hid (fun W => Decimal_any 100 p.delay W (by omega) (by omega) (by omega))
      obtain ⟨kn, hkn⟩ : ∃ kn : Nat, p.kind = kn := ⟨p.kind.toNat, by omega⟩
      have hk6 : kn < 6 := by omega
      have HPL := Lib.hid (show pcLine p = lineL [decL p.x, decL p.y, kindWL (kn : Int), decL p.turn, decL p.delay] by unfold pcLine pcWs; rw [hkn])
      obtain ⟨px, py, pk, pt, pd⟩ := p
      simp only at hin hkn HX HY HT HD
      subst hkn
      have ix : IntKind.i64.wrap px = px := IntWalk.i64_in _ (by omega)
      have iy : IntKind.i64.wrap py = py := IntWalk.i64_in _ (by omega)
      have it : IntKind.i64.wrap pt = pt := IntWalk.i64_in _ (by omega)
      have id : IntKind.i64.wrap pd = pd := IntWalk.i64_in _ (by omega)
      have lx1 := decL_len2 (n := px) (by omega)
      have ly1 := decL_len2 (n := py) (by omega)
      have lt1 := decL_len2 (n := pt) (by omega)
      have ld1 := decL_len2 (n := pd) (by omega)
      have lk1 := kindWL_len (kn : Int)
      obtain ⟨X, hX⟩ : ∃ D, bsT (decL px) = D := ⟨_, rfl⟩
      obtain ⟨Y, hY⟩ : ∃ D, bsT (decL py) = D := ⟨_, rfl⟩
      obtain ⟨KW, hKW⟩ : ∃ D, bsT (kindWL (kn : Int)) = D := ⟨_, rfl⟩
      obtain ⟨TT, hTT⟩ : ∃ D, bsT (decL pt) = D := ⟨_, rfl⟩
      obtain ⟨DD, hDD⟩ : ∃ D, bsT (decL pd) = D := ⟨_, rfl⟩
      have sX : X.size ≤ 2 := by rw [← hX, bsT_size]; exact lx1
      have sY : Y.size ≤ 2 := by rw [← hY, bsT_size]; exact ly1
      have sK : KW.size ≤ 6 := by rw [← hKW, bsT_size]; exact lk1
      have sT : TT.size ≤ 2 := by rw [← hTT, bsT_size]; exact lt1
      have sD : DD.size ≤ 2 := by rw [← hDD, bsT_size]; exact ld1
      rw [hX] at HX
      rw [hY] at HY
      rw [hTT] at HT
      rw [hDD] at HD
      have HKW := Lib.hid hKW
      obtain ⟨V0, e0⟩ : ∃ z, X ++ ⟨#[32]⟩ = z := ⟨_, rfl⟩
      have E0 := Lib.hid e0
      have y0 : V0.size = X.size + 1 := by rw [← e0, ByteArray.size_append]; rfl
      have z0 : ¬ 9223372036854775807 < X.size + 1 := by omega
      obtain ⟨V1, e1⟩ : ∃ z, V0 ++ Y = z := ⟨_, rfl⟩
      have E1 := Lib.hid e1
      have y1 : V1.size = V0.size + Y.size := by rw [← e1, ByteArray.size_append]
      have z1 : ¬ 9223372036854775807 < V0.size + Y.size := by omega
      obtain ⟨V2, e2⟩ : ∃ z, V1 ++ ⟨#[32]⟩ = z := ⟨_, rfl⟩
      have E2 := Lib.hid e2
      have y2 : V2.size = V1.size + 1 := by rw [← e2, ByteArray.size_append]; rfl
      have z2 : ¬ 9223372036854775807 < V1.size + 1 := by omega
      obtain ⟨V3, e3⟩ : ∃ z, V2 ++ KW = z := ⟨_, rfl⟩
      have E3 := Lib.hid e3
      have y3 : V3.size = V2.size + KW.size := by rw [← e3, ByteArray.size_append]
      have z3 : ¬ 9223372036854775807 < V2.size + KW.size := by omega
      obtain ⟨V4, e4⟩ : ∃ z, V3 ++ ⟨#[32]⟩ = z := ⟨_, rfl⟩
      have E4 := Lib.hid e4
      have y4 : V4.size = V3.size + 1 := by rw [← e4, ByteArray.size_append]; rfl
      have z4 : ¬ 9223372036854775807 < V3.size + 1 := by omega
      obtain ⟨V5, e5⟩ : ∃ z, V4 ++ TT = z := ⟨_, rfl⟩
      have E5 := Lib.hid e5
      have y5 : V5.size = V4.size + TT.size := by rw [← e5, ByteArray.size_append]
      have z5 : ¬ 9223372036854775807 < V4.size + TT.size := by omega
      obtain ⟨V6, e6⟩ : ∃ z, V5 ++ ⟨#[32]⟩ = z := ⟨_, rfl⟩
      have E6 := Lib.hid e6
      have y6 : V6.size = V5.size + 1 := by rw [← e6, ByteArray.size_append]; rfl
      have z6 : ¬ 9223372036854775807 < V5.size + 1 := by omega
      obtain ⟨V7, e7⟩ : ∃ z, V6 ++ DD = z := ⟨_, rfl⟩
      have E7 := Lib.hid e7
      have y7 : V7.size = V6.size + DD.size := by rw [← e7, ByteArray.size_append]
      have z7 : ¬ 9223372036854775807 < V6.size + DD.size := by omega
      obtain ⟨V8, e8⟩ : ∃ z, V7 ++ ⟨#[10]⟩ = z := ⟨_, rfl⟩
      have E8 := Lib.hid e8
      have y8 : V8.size = V7.size + 1 := by rw [← e8, ByteArray.size_append]; rfl
      have z8 : ¬ 9223372036854775807 < V7.size + 1 := by omega
      obtain ⟨V9, e9⟩ : ∃ z, O ++ V8 = z := ⟨_, rfl⟩
      have E9 := Lib.hid e9
      have y9 : V9.size = O.size + V8.size := by rw [← e9, ByteArray.size_append]
      have z9 : ¬ 9223372036854775807 < O.size + V8.size := by omega
      have HN : Hid (bsT (bdL wd hi (l.take (j + 1))) = V9) := Lib.hid (by
        rw [HNX.out, HPL.out, ← bsT_app, hO.out, ← e9, ← e8, ← e7, ← e6, ← e5, ← e4, ← e3, ← e2, ← e1, ← e0, ← hX, ← hY, ← hKW, ← hTT, ← hDD, show (⟨#[32]⟩ : ByteArray) = bsT [32] from rfl, show (⟨#[10]⟩ : ByteArray) = bsT [10] from rfl]
        simp only [bsT_app]
        unfold lineL
        rw [join5]
        simp)
      clear HNX HPL hO hpj hin hX hY hKW hTT hDD lx1 ly1 lt1 ld1 lk1 hll sX sY sK sT sD hOs
      clear y0 e0 y1 e1 y2 e2 y3 e3 y4 e4 y5 e5 y6 e6 y7 e7 y8 e8 y9 e9
      have hS0 : SxP b j px py (kn : Int) pt pd wr := ⟨hpc, zb⟩
      clear hpc zb
      have hk60 : (kn : Int) < 6 := by omega
      go_upto_region 6 with fail
      clear x0 x1 x2 lx
      refine regionW_of_HX (fun w' => SxP b j px py (kn : Int) pt pd w') (by kernel_rfl) hS0 (fun hHeld => ?_)
      have K0 := Lib.hid (show Below wr.heap.size wr wr.drew from Below.drew (Below.refl _ _))
      clear hS0
      obtain ⟨W, hW⟩ : ∃ W, wr.drew = W := ⟨_, rfl⟩
      rw [hW] at K0 hHeld ⊢
      clear hW
      refine wpAnyH_take (i := 0) (v := .string O) rfl (by kernel_rfl) (by kernel_rfl) (by kernel_rfl) (fun _ _ _ h => absurd h.1 (by simp)) (Or.inl ⟨by rfl, fun w7 hSw => ?_⟩) (by assumption) ?_
      · clear hSw
        go_simp
      try simp only [Act.put, List.setIfInBounds_toArray, List.set_cons_zero, List.set_cons_succ]
      refine wpAnyH_take (i := 1) (v := .pointer (some ⟨b, j * 5, none⟩)) rfl (by kernel_rfl) (by kernel_rfl) (by kernel_rfl) (fun _ _ _ h => absurd h.1 (by simp)) (Or.inl ⟨by rfl, fun w7 hSw => ?_⟩) (by assumption) ?_
      · clear hSw
        go_simp
      try simp only [Act.put, List.setIfInBounds_toArray, List.set_cons_zero, List.set_cons_succ]
      refine wpAnyH_take (i := 2) (v := .pointer (some ⟨b, j * 5, none⟩)) rfl (by kernel_rfl) (by kernel_rfl) (by kernel_rfl) (fun _ _ _ h => absurd h.1 (by simp)) (Or.inl ⟨by rfl, fun w7 hSw => ?_⟩) (by assumption) ?_
      · clear hSw
        go_simp
      try simp only [Act.put, List.setIfInBounds_toArray, List.set_cons_zero, List.set_cons_succ]
      refine wpAnyH_take (i := 3) (v := .pointer (some ⟨b, j * 5, none⟩)) rfl (by kernel_rfl) (by kernel_rfl) (by kernel_rfl) (fun _ _ _ h => absurd h.1 (by simp)) (Or.inl ⟨by rfl, fun w7 hSw => ?_⟩) (by assumption) ?_
      · clear hSw
        go_simp
      try simp only [Act.put, List.setIfInBounds_toArray, List.set_cons_zero, List.set_cons_succ]
      refine wpAnyH_take (i := 4) (v := .pointer (some ⟨b, j * 5, none⟩)) rfl (by kernel_rfl) (by kernel_rfl) (by kernel_rfl) (fun _ _ _ h => absurd h.1 (by simp)) (Or.inl ⟨by rfl, fun w7 hSw => ?_⟩) (by assumption) ?_
      · clear hSw
        go_simp
      try simp only [Act.put, List.setIfInBounds_toArray, List.set_cons_zero, List.set_cons_succ]
      refine wpAnyH_take (i := 5) (v := .int .i8 px) rfl (by kernel_rfl) (by kernel_rfl) (by kernel_rfl) (fun _ _ _ h => absurd h.1 (by simp)) (Or.inl ⟨by rfl, fun w7 hSw => ?_⟩) (by assumption) ?_
      · obtain ⟨⟨a0, a1, a2, a3, a4⟩, lb_⟩ := hSw
        go_simp
      try simp only [Act.put, List.setIfInBounds_toArray, List.set_cons_zero, List.set_cons_succ]
      refine wpAnyH_take (i := 6) (v := .int .i64 px) rfl (by kernel_rfl) (by kernel_rfl) (by kernel_rfl) (fun _ _ _ h => absurd h.1 (by simp)) (Or.inl ⟨by rfl, fun w7 hSw => ?_⟩) (by assumption) ?_
      · clear hSw
        go_simp
      try simp only [Act.put, List.setIfInBounds_toArray, List.set_cons_zero, List.set_cons_succ]
      refine wpAnyH_take (i := 9) (v := .pointer (some ⟨b, j * 5, none⟩)) rfl (by kernel_rfl) (by kernel_rfl) (by kernel_rfl) (fun _ _ _ h => absurd h.1 (by simp)) (Or.inl ⟨by rfl, fun w7 hSw => ?_⟩) (by assumption) ?_
      · clear hSw
        go_simp
      try simp only [Act.put, List.setIfInBounds_toArray, List.set_cons_zero, List.set_cons_succ]
      refine wpAnyH_take (i := 10) (v := .pointer (some ⟨b, j * 5, none⟩)) rfl (by kernel_rfl) (by kernel_rfl) (by kernel_rfl) (fun _ _ _ h => absurd h.1 (by simp)) (Or.inl ⟨by rfl, fun w7 hSw => ?_⟩) (by assumption) ?_
      · clear hSw
        go_simp
      try simp only [Act.put, List.setIfInBounds_toArray, List.set_cons_zero, List.set_cons_succ]
      refine wpAnyH_take (i := 11) (v := .pointer (some ⟨b, j * 5, none⟩)) rfl (by kernel_rfl) (by kernel_rfl) (by kernel_rfl) (fun _ _ _ h => absurd h.1 (by simp)) (Or.inl ⟨by rfl, fun w7 hSw => ?_⟩) (by assumption) ?_
      · clear hSw
        go_simp
      try simp only [Act.put, List.setIfInBounds_toArray, List.set_cons_zero, List.set_cons_succ]
      refine wpAnyH_take (i := 12) (v := .pointer (some ⟨b, j * 5 + 1, none⟩)) rfl (by kernel_rfl) (by kernel_rfl) (by kernel_rfl) (fun _ _ _ h => absurd h.1 (by simp)) (Or.inl ⟨by rfl, fun w7 hSw => ?_⟩) (by assumption) ?_
      · clear hSw
        go_simp
      try simp only [Act.put, List.setIfInBounds_toArray, List.set_cons_zero, List.set_cons_succ]
      refine wpAnyH_take (i := 13) (v := .int .i8 py) rfl (by kernel_rfl) (by kernel_rfl) (by kernel_rfl) (fun _ _ _ h => absurd h.1 (by simp)) (Or.inl ⟨by rfl, fun w7 hSw => ?_⟩) (by assumption) ?_
      · obtain ⟨⟨a0, a1, a2, a3, a4⟩, lb_⟩ := hSw
        go_simp
      try simp only [Act.put, List.setIfInBounds_toArray, List.set_cons_zero, List.set_cons_succ]
      refine wpAnyH_take (i := 14) (v := .int .i64 py) rfl (by kernel_rfl) (by kernel_rfl) (by kernel_rfl) (fun _ _ _ h => absurd h.1 (by simp)) (Or.inl ⟨by rfl, fun w7 hSw => ?_⟩) (by assumption) ?_
      · clear hSw
        go_simp
      try simp only [Act.put, List.setIfInBounds_toArray, List.set_cons_zero, List.set_cons_succ]
      refine wpAnyH_take (i := 19) (v := .pointer (some ⟨b, j * 5, none⟩)) rfl (by kernel_rfl) (by kernel_rfl) (by kernel_rfl) (fun _ _ _ h => absurd h.1 (by simp)) (Or.inl ⟨by rfl, fun w7 hSw => ?_⟩) (by assumption) ?_
      · clear hSw
        go_simp
      try simp only [Act.put, List.setIfInBounds_toArray, List.set_cons_zero, List.set_cons_succ]
      refine wpAnyH_take (i := 20) (v := .pointer (some ⟨b, j * 5, none⟩)) rfl (by kernel_rfl) (by kernel_rfl) (by kernel_rfl) (fun _ _ _ h => absurd h.1 (by simp)) (Or.inl ⟨by rfl, fun w7 hSw => ?_⟩) (by assumption) ?_
      · clear hSw
        go_simp
      try simp only [Act.put, List.setIfInBounds_toArray, List.set_cons_zero, List.set_cons_succ]
      refine wpAnyH_take (i := 21) (v := .pointer (some ⟨b, j * 5 + 2, none⟩)) rfl (by kernel_rfl) (by kernel_rfl) (by kernel_rfl) (fun _ _ _ h => absurd h.1 (by simp)) (Or.inl ⟨by rfl, fun w7 hSw => ?_⟩) (by assumption) ?_
      · clear hSw
        go_simp
      try simp only [Act.put, List.setIfInBounds_toArray, List.set_cons_zero, List.set_cons_succ]
      refine wpAnyH_take (i := 22) (v := .int .i8 (kn : Int)) rfl (by kernel_rfl) (by kernel_rfl) (by kernel_rfl) (fun _ _ _ h => absurd h.1 (by simp)) (Or.inl ⟨by rfl, fun w7 hSw => ?_⟩) (by assumption) ?_
      · obtain ⟨⟨a0, a1, a2, a3, a4⟩, lb_⟩ := hSw
        go_simp
      try simp only [Act.put, List.setIfInBounds_toArray, List.set_cons_zero, List.set_cons_succ]
      refine wpAnyH_take (i := 27) (v := .pointer (some ⟨b, j * 5, none⟩)) rfl (by kernel_rfl) (by kernel_rfl) (by kernel_rfl) (fun _ _ _ h => absurd h.1 (by simp)) (Or.inl ⟨by rfl, fun w7 hSw => ?_⟩) (by assumption) ?_
      · clear hSw
        go_simp
      try simp only [Act.put, List.setIfInBounds_toArray, List.set_cons_zero, List.set_cons_succ]
      refine wpAnyH_take (i := 28) (v := .pointer (some ⟨b, j * 5, none⟩)) rfl (by kernel_rfl) (by kernel_rfl) (by kernel_rfl) (fun _ _ _ h => absurd h.1 (by simp)) (Or.inl ⟨by rfl, fun w7 hSw => ?_⟩) (by assumption) ?_
      · clear hSw
        go_simp
      try simp only [Act.put, List.setIfInBounds_toArray, List.set_cons_zero, List.set_cons_succ]
      refine wpAnyH_take (i := 29) (v := .pointer (some ⟨b, j * 5 + 3, none⟩)) rfl (by kernel_rfl) (by kernel_rfl) (by kernel_rfl) (fun _ _ _ h => absurd h.1 (by simp)) (Or.inl ⟨by rfl, fun w7 hSw => ?_⟩) (by assumption) ?_
      · clear hSw
        go_simp
      try simp only [Act.put, List.setIfInBounds_toArray, List.set_cons_zero, List.set_cons_succ]
      refine wpAnyH_take (i := 30) (v := .int .i8 pt) rfl (by kernel_rfl) (by kernel_rfl) (by kernel_rfl) (fun _ _ _ h => absurd h.1 (by simp)) (Or.inl ⟨by rfl, fun w7 hSw => ?_⟩) (by assumption) ?_
      · obtain ⟨⟨a0, a1, a2, a3, a4⟩, lb_⟩ := hSw
        go_simp
      try simp only [Act.put, List.setIfInBounds_toArray, List.set_cons_zero, List.set_cons_succ]
      refine wpAnyH_take (i := 31) (v := .int .i64 pt) rfl (by kernel_rfl) (by kernel_rfl) (by kernel_rfl) (fun _ _ _ h => absurd h.1 (by simp)) (Or.inl ⟨by rfl, fun w7 hSw => ?_⟩) (by assumption) ?_
      · clear hSw
        go_simp
      try simp only [Act.put, List.setIfInBounds_toArray, List.set_cons_zero, List.set_cons_succ]
      refine wpAnyH_take (i := 35) (v := .pointer (some ⟨b, j * 5, none⟩)) rfl (by kernel_rfl) (by kernel_rfl) (by kernel_rfl) (fun _ _ _ h => absurd h.1 (by simp)) (Or.inl ⟨by rfl, fun w7 hSw => ?_⟩) (by assumption) ?_
      · clear hSw
        go_simp
      try simp only [Act.put, List.setIfInBounds_toArray, List.set_cons_zero, List.set_cons_succ]
      refine wpAnyH_take (i := 36) (v := .pointer (some ⟨b, j * 5, none⟩)) rfl (by kernel_rfl) (by kernel_rfl) (by kernel_rfl) (fun _ _ _ h => absurd h.1 (by simp)) (Or.inl ⟨by rfl, fun w7 hSw => ?_⟩) (by assumption) ?_
      · clear hSw
        go_simp
      try simp only [Act.put, List.setIfInBounds_toArray, List.set_cons_zero, List.set_cons_succ]
      refine wpAnyH_take (i := 37) (v := .pointer (some ⟨b, j * 5 + 4, none⟩)) rfl (by kernel_rfl) (by kernel_rfl) (by kernel_rfl) (fun _ _ _ h => absurd h.1 (by simp)) (Or.inl ⟨by rfl, fun w7 hSw => ?_⟩) (by assumption) ?_
      · clear hSw
        go_simp
      try simp only [Act.put, List.setIfInBounds_toArray, List.set_cons_zero, List.set_cons_succ]
      refine wpAnyH_take (i := 38) (v := .int .i8 pd) rfl (by kernel_rfl) (by kernel_rfl) (by kernel_rfl) (fun _ _ _ h => absurd h.1 (by simp)) (Or.inl ⟨by rfl, fun w7 hSw => ?_⟩) (by assumption) ?_
      · obtain ⟨⟨a0, a1, a2, a3, a4⟩, lb_⟩ := hSw
        go_simp
      try simp only [Act.put, List.setIfInBounds_toArray, List.set_cons_zero, List.set_cons_succ]
      refine wpAnyH_take (i := 39) (v := .int .i64 pd) rfl (by kernel_rfl) (by kernel_rfl) (by kernel_rfl) (fun _ _ _ h => absurd h.1 (by simp)) (Or.inl ⟨by rfl, fun w7 hSw => ?_⟩) (by assumption) ?_
      · clear hSw
        go_simp
      try simp only [Act.put, List.setIfInBounds_toArray, List.set_cons_zero, List.set_cons_succ]
      refine wpAnyH_ready (rs := [7]) (by kernel_rfl) (by simp) ?_
      refine AllReadyH.cons rfl (fun K hK => ?_) AllReadyH.nil
      · skip
        go_simp
        go_wp2_with (go_at_call 82
                     refine (HX.out W).mono ?_
                     rintro e xt1 ⟨rfl, kt1⟩
                     have Kt1 := Lib.hid (kTrans K0.out kt1)
                     have St1 := Lib.hid (show SxP b j px py (kn : Int) pt pd xt1 from hHeld.below kt1))
        refine hK.out _ _ St1.out (fun hHeld1 => ?_)
        clear hK K kt1
        refine wpAnyH_take (i := 8) (v := .string V0) rfl (by kernel_rfl) (by kernel_rfl) (by kernel_rfl) (fun _ _ _ h => absurd h.1 (by simp)) (Or.inl ⟨by rfl, fun w7 hSw => ?_⟩) (by assumption) ?_
        · clear hSw
          have hv_ := E0.out
          go_simp
          first | done | rw [hv_]
        try simp only [Act.put, List.setIfInBounds_toArray, List.set_cons_zero, List.set_cons_succ]
        refine wpAnyH_ready (rs := [15]) (by kernel_rfl) (by simp) ?_
        refine AllReadyH.cons rfl (fun K hK => ?_) AllReadyH.nil
        · skip
          go_simp
          go_wp2_with (go_at_call 82
                       refine (HY.out xt1).mono ?_
                       rintro e xt2 ⟨rfl, kt2⟩
                       have Kt2 := Lib.hid (kTrans Kt1.out kt2)
                       have St2 := Lib.hid (show SxP b j px py (kn : Int) pt pd xt2 from hHeld1.below kt2))
          refine hK.out _ _ St2.out (fun hHeld2 => ?_)
          clear hK K kt2
          refine wpAnyH_take (i := 16) (v := .string V1) rfl (by kernel_rfl) (by kernel_rfl) (by kernel_rfl) (fun _ _ _ h => absurd h.1 (by simp)) (Or.inl ⟨by rfl, fun w7 hSw => ?_⟩) (by assumption) ?_
          · clear hSw
            have hv_ := E1.out
            go_simp
            first | done | rw [hv_]
          try simp only [Act.put, List.setIfInBounds_toArray, List.set_cons_zero, List.set_cons_succ]
          refine wpAnyH_take (i := 17) (v := .string V2) rfl (by kernel_rfl) (by kernel_rfl) (by kernel_rfl) (fun _ _ _ h => absurd h.1 (by simp)) (Or.inl ⟨by rfl, fun w7 hSw => ?_⟩) (by assumption) ?_
          · clear hSw
            have hv_ := E2.out
            go_simp
            first | done | rw [hv_]
          try simp only [Act.put, List.setIfInBounds_toArray, List.set_cons_zero, List.set_cons_succ]
          refine wpAnyH_ready (rs := [18]) (by kernel_rfl) (by simp) ?_
          refine AllReadyH.cons rfl (fun K hK => ?_) AllReadyH.nil
          · skip
            go_simp
            go_wp2_with (go_at_call 83
                         refine (l01Words_any xt2).mono ?_
                         rintro e xt3 ⟨g3, rfl, hw6, kt3⟩
                         have wl3 := Lib.hid hw6
                         have Kt3 := Lib.hid (kTrans Kt2.out kt3)
                         have St3 := Lib.hid (show SxP b j px py (kn : Int) pt pd xt3 from hHeld2.below kt3)
                         clear hw6)
            refine hK.out _ _ St3.out (fun hHeld3 => ?_)
            clear hK K kt3
            refine wpAnyH_take (i := 23) (v := .pointer (some ⟨g3, kn, none⟩)) rfl (by kernel_rfl) (by kernel_rfl) (by kernel_rfl) (fun _ _ _ h => absurd h.1 (by simp)) (Or.inl ⟨by rfl, fun w7 hSw => ?_⟩) (by assumption) ?_
            · clear hSw
              go_simp
            try simp only [Act.put, List.setIfInBounds_toArray, List.set_cons_zero, List.set_cons_succ]
            refine wpAnyH_ready (rs := [24, 32]) (by kernel_rfl) (by simp) ?_
            refine AllReadyH.cons rfl (fun K hK => ?_) (AllReadyH.cons rfl (fun K hK => ?_) AllReadyH.nil)
            · skip
              have cw4 := (wl3.out.1 kn hk6).trans (congrArg (fun z => some (Value.string z)) HKW.out)
              have lw4 := wl3.out.2
              go_simp
              refine hK.out _ _ hHeld3 (fun hHeld4 => ?_)
              clear hK K cw4 lw4
              refine wpAnyH_take (i := 25) (v := .string V3) rfl (by kernel_rfl) (by kernel_rfl) (by kernel_rfl) (fun _ _ _ h => absurd h.1 (by simp)) (Or.inl ⟨by rfl, fun w7 hSw => ?_⟩) (by assumption) ?_
              · clear hSw
                have hv_ := E3.out
                go_simp
                first | done | rw [hv_]
              try simp only [Act.put, List.setIfInBounds_toArray, List.set_cons_zero, List.set_cons_succ]
              refine wpAnyH_take (i := 26) (v := .string V4) rfl (by kernel_rfl) (by kernel_rfl) (by kernel_rfl) (fun _ _ _ h => absurd h.1 (by simp)) (Or.inl ⟨by rfl, fun w7 hSw => ?_⟩) (by assumption) ?_
              · clear hSw
                have hv_ := E4.out
                go_simp
                first | done | rw [hv_]
              try simp only [Act.put, List.setIfInBounds_toArray, List.set_cons_zero, List.set_cons_succ]
              refine wpAnyH_ready (rs := [32]) (by kernel_rfl) (by simp) ?_
              refine AllReadyH.cons rfl (fun K hK => ?_) AllReadyH.nil
              · skip
                go_simp
                go_wp2_with (go_at_call 82
                             refine (HT.out xt3).mono ?_
                             rintro e xt5 ⟨rfl, kt5⟩
                             have Kt5 := Lib.hid (kTrans Kt3.out kt5)
                             have St5 := Lib.hid (show SxP b j px py (kn : Int) pt pd xt5 from hHeld4.below kt5))
                have wl5 := Lib.hid (wl3.out.below kt5)
                refine hK.out _ _ St5.out (fun hHeld5 => ?_)
                clear hK K kt5
                refine wpAnyH_take (i := 33) (v := .string V5) rfl (by kernel_rfl) (by kernel_rfl) (by kernel_rfl) (fun _ _ _ h => absurd h.1 (by simp)) (Or.inl ⟨by rfl, fun w7 hSw => ?_⟩) (by assumption) ?_
                · clear hSw
                  have hv_ := E5.out
                  go_simp
                  first | done | rw [hv_]
                try simp only [Act.put, List.setIfInBounds_toArray, List.set_cons_zero, List.set_cons_succ]
                refine wpAnyH_take (i := 34) (v := .string V6) rfl (by kernel_rfl) (by kernel_rfl) (by kernel_rfl) (fun _ _ _ h => absurd h.1 (by simp)) (Or.inl ⟨by rfl, fun w7 hSw => ?_⟩) (by assumption) ?_
                · clear hSw
                  have hv_ := E6.out
                  go_simp
                  first | done | rw [hv_]
                try simp only [Act.put, List.setIfInBounds_toArray, List.set_cons_zero, List.set_cons_succ]
                refine wpAnyH_ready (rs := [40]) (by kernel_rfl) (by simp) ?_
                refine AllReadyH.cons rfl (fun K hK => ?_) AllReadyH.nil
                · skip
                  go_simp
                  go_wp2_with (go_at_call 82
                               refine (HD.out xt5).mono ?_
                               rintro e xt6 ⟨rfl, kt6⟩
                               have Kt6 := Lib.hid (kTrans Kt5.out kt6)
                               have St6 := Lib.hid (show SxP b j px py (kn : Int) pt pd xt6 from hHeld5.below kt6))
                  have wl6 := Lib.hid (wl5.out.below kt6)
                  refine hK.out _ _ St6.out (fun hHeld6 => ?_)
                  clear hK K kt6
                  refine wpAnyH_take (i := 41) (v := .string V7) rfl (by kernel_rfl) (by kernel_rfl) (by kernel_rfl) (fun _ _ _ h => absurd h.1 (by simp)) (Or.inl ⟨by rfl, fun w7 hSw => ?_⟩) (by assumption) ?_
                  · clear hSw
                    have hv_ := E7.out
                    go_simp
                    first | done | rw [hv_]
                  try simp only [Act.put, List.setIfInBounds_toArray, List.set_cons_zero, List.set_cons_succ]
                  refine wpAnyH_take (i := 42) (v := .string V8) rfl (by kernel_rfl) (by kernel_rfl) (by kernel_rfl) (fun _ _ _ h => absurd h.1 (by simp)) (Or.inl ⟨by rfl, fun w7 hSw => ?_⟩) (by assumption) ?_
                  · clear hSw
                    have hv_ := E8.out
                    go_simp
                    first | done | rw [hv_]
                  try simp only [Act.put, List.setIfInBounds_toArray, List.set_cons_zero, List.set_cons_succ]
                  refine wpAnyH_take (i := 43) (v := .string V9) rfl (by kernel_rfl) (by kernel_rfl) (by kernel_rfl) (fun _ _ _ h => absurd h.1 (by simp)) (Or.inl ⟨by rfl, fun w7 hSw => ?_⟩) (by assumption) ?_
                  · clear hSw
                    have hv_ := E9.out
                    go_simp
                    first | done | rw [hv_]
                  try simp only [Act.put, List.setIfInBounds_toArray, List.set_cons_zero, List.set_cons_succ]
                  refine wpAnyH_ready (rs := [44]) (by kernel_rfl) (by simp) ?_
                  refine AllReadyH.cons rfl (fun K hK => ?_) AllReadyH.nil
                  · skip
                    go_simp
                    refine hK.out _ _ hHeld6 (fun hHeld => ?_)
                    clear hK K
                    refine wpAnyH_done (by kernel_rfl) ?_ _
                    refine ⟨rfl, ?_⟩
                    clear hHeld
                    go_wp2
                    exact ⟨⟨j + 1, V9, _, by omega, by go_num, rfl, rfl, HN, Lib.hid (kTrans hB.out Kt6.out)⟩, by simp [intOf]; omega⟩
            · skip
              go_simp
              go_wp2_with (go_at_call 82
                           refine (HT.out xt3).mono ?_
                           rintro e xt4 ⟨rfl, kt4⟩
                           have Kt4 := Lib.hid (kTrans Kt3.out kt4)
                           have St4 := Lib.hid (show SxP b j px py (kn : Int) pt pd xt4 from hHeld3.below kt4))
              have wl4 := Lib.hid (wl3.out.below kt4)
              refine hK.out _ _ St4.out (fun hHeld4 => ?_)
              clear hK K kt4
              refine wpAnyH_ready (rs := [24, 40]) (by kernel_rfl) (by simp) ?_
              refine AllReadyH.cons rfl (fun K hK => ?_) (AllReadyH.cons rfl (fun K hK => ?_) AllReadyH.nil)
              · skip
                have cw5 := (wl4.out.1 kn hk6).trans (congrArg (fun z => some (Value.string z)) HKW.out)
                have lw5 := wl4.out.2
                go_simp
                refine hK.out _ _ hHeld4 (fun hHeld5 => ?_)
                clear hK K cw5 lw5
                refine wpAnyH_take (i := 25) (v := .string V3) rfl (by kernel_rfl) (by kernel_rfl) (by kernel_rfl) (fun _ _ _ h => absurd h.1 (by simp)) (Or.inl ⟨by rfl, fun w7 hSw => ?_⟩) (by assumption) ?_
                · clear hSw
                  have hv_ := E3.out
                  go_simp
                  first | done | rw [hv_]
                try simp only [Act.put, List.setIfInBounds_toArray, List.set_cons_zero, List.set_cons_succ]
                refine wpAnyH_take (i := 26) (v := .string V4) rfl (by kernel_rfl) (by kernel_rfl) (by kernel_rfl) (fun _ _ _ h => absurd h.1 (by simp)) (Or.inl ⟨by rfl, fun w7 hSw => ?_⟩) (by assumption) ?_
                · clear hSw
                  have hv_ := E4.out
                  go_simp
                  first | done | rw [hv_]
                try simp only [Act.put, List.setIfInBounds_toArray, List.set_cons_zero, List.set_cons_succ]
                refine wpAnyH_take (i := 33) (v := .string V5) rfl (by kernel_rfl) (by kernel_rfl) (by kernel_rfl) (fun _ _ _ h => absurd h.1 (by simp)) (Or.inl ⟨by rfl, fun w7 hSw => ?_⟩) (by assumption) ?_
                · clear hSw
                  have hv_ := E5.out
                  go_simp
                  first | done | rw [hv_]
                try simp only [Act.put, List.setIfInBounds_toArray, List.set_cons_zero, List.set_cons_succ]
                refine wpAnyH_take (i := 34) (v := .string V6) rfl (by kernel_rfl) (by kernel_rfl) (by kernel_rfl) (fun _ _ _ h => absurd h.1 (by simp)) (Or.inl ⟨by rfl, fun w7 hSw => ?_⟩) (by assumption) ?_
                · clear hSw
                  have hv_ := E6.out
                  go_simp
                  first | done | rw [hv_]
                try simp only [Act.put, List.setIfInBounds_toArray, List.set_cons_zero, List.set_cons_succ]
                refine wpAnyH_ready (rs := [40]) (by kernel_rfl) (by simp) ?_
                refine AllReadyH.cons rfl (fun K hK => ?_) AllReadyH.nil
                · skip
                  go_simp
                  go_wp2_with (go_at_call 82
                               refine (HD.out xt4).mono ?_
                               rintro e xt6 ⟨rfl, kt6⟩
                               have Kt6 := Lib.hid (kTrans Kt4.out kt6)
                               have St6 := Lib.hid (show SxP b j px py (kn : Int) pt pd xt6 from hHeld5.below kt6))
                  have wl6 := Lib.hid (wl4.out.below kt6)
                  refine hK.out _ _ St6.out (fun hHeld6 => ?_)
                  clear hK K kt6
                  refine wpAnyH_take (i := 41) (v := .string V7) rfl (by kernel_rfl) (by kernel_rfl) (by kernel_rfl) (fun _ _ _ h => absurd h.1 (by simp)) (Or.inl ⟨by rfl, fun w7 hSw => ?_⟩) (by assumption) ?_
                  · clear hSw
                    have hv_ := E7.out
                    go_simp
                    first | done | rw [hv_]
                  try simp only [Act.put, List.setIfInBounds_toArray, List.set_cons_zero, List.set_cons_succ]
                  refine wpAnyH_take (i := 42) (v := .string V8) rfl (by kernel_rfl) (by kernel_rfl) (by kernel_rfl) (fun _ _ _ h => absurd h.1 (by simp)) (Or.inl ⟨by rfl, fun w7 hSw => ?_⟩) (by assumption) ?_
                  · clear hSw
                    have hv_ := E8.out
                    go_simp
                    first | done | rw [hv_]
                  try simp only [Act.put, List.setIfInBounds_toArray, List.set_cons_zero, List.set_cons_succ]
                  refine wpAnyH_take (i := 43) (v := .string V9) rfl (by kernel_rfl) (by kernel_rfl) (by kernel_rfl) (fun _ _ _ h => absurd h.1 (by simp)) (Or.inl ⟨by rfl, fun w7 hSw => ?_⟩) (by assumption) ?_
                  · clear hSw
                    have hv_ := E9.out
                    go_simp
                    first | done | rw [hv_]
                  try simp only [Act.put, List.setIfInBounds_toArray, List.set_cons_zero, List.set_cons_succ]
                  refine wpAnyH_ready (rs := [44]) (by kernel_rfl) (by simp) ?_
                  refine AllReadyH.cons rfl (fun K hK => ?_) AllReadyH.nil
                  · skip
                    go_simp
                    refine hK.out _ _ hHeld6 (fun hHeld => ?_)
                    clear hK K
                    refine wpAnyH_done (by kernel_rfl) ?_ _
                    refine ⟨rfl, ?_⟩
                    clear hHeld
                    go_wp2
                    exact ⟨⟨j + 1, V9, _, by omega, by go_num, rfl, rfl, HN, Lib.hid (kTrans hB.out Kt6.out)⟩, by simp [intOf]; omega⟩
              · skip
                go_simp
                go_wp2_with (go_at_call 82
                             refine (HD.out xt4).mono ?_
                             rintro e xt5 ⟨rfl, kt5⟩
                             have Kt5 := Lib.hid (kTrans Kt4.out kt5)
                             have St5 := Lib.hid (show SxP b j px py (kn : Int) pt pd xt5 from hHeld4.below kt5))
                have wl5 := Lib.hid (wl4.out.below kt5)
                refine hK.out _ _ St5.out (fun hHeld5 => ?_)
                clear hK K kt5
                refine wpAnyH_ready (rs := [24]) (by kernel_rfl) (by simp) ?_
                refine AllReadyH.cons rfl (fun K hK => ?_) AllReadyH.nil
                · skip
                  have cw6 := (wl5.out.1 kn hk6).trans (congrArg (fun z => some (Value.string z)) HKW.out)
                  have lw6 := wl5.out.2
                  go_simp
                  refine hK.out _ _ hHeld5 (fun hHeld6 => ?_)
                  clear hK K cw6 lw6
                  refine wpAnyH_take (i := 25) (v := .string V3) rfl (by kernel_rfl) (by kernel_rfl) (by kernel_rfl) (fun _ _ _ h => absurd h.1 (by simp)) (Or.inl ⟨by rfl, fun w7 hSw => ?_⟩) (by assumption) ?_
                  · clear hSw
                    have hv_ := E3.out
                    go_simp
                    first | done | rw [hv_]
                  try simp only [Act.put, List.setIfInBounds_toArray, List.set_cons_zero, List.set_cons_succ]
                  refine wpAnyH_take (i := 26) (v := .string V4) rfl (by kernel_rfl) (by kernel_rfl) (by kernel_rfl) (fun _ _ _ h => absurd h.1 (by simp)) (Or.inl ⟨by rfl, fun w7 hSw => ?_⟩) (by assumption) ?_
                  · clear hSw
                    have hv_ := E4.out
                    go_simp
                    first | done | rw [hv_]
                  try simp only [Act.put, List.setIfInBounds_toArray, List.set_cons_zero, List.set_cons_succ]
                  refine wpAnyH_take (i := 33) (v := .string V5) rfl (by kernel_rfl) (by kernel_rfl) (by kernel_rfl) (fun _ _ _ h => absurd h.1 (by simp)) (Or.inl ⟨by rfl, fun w7 hSw => ?_⟩) (by assumption) ?_
                  · clear hSw
                    have hv_ := E5.out
                    go_simp
                    first | done | rw [hv_]
                  try simp only [Act.put, List.setIfInBounds_toArray, List.set_cons_zero, List.set_cons_succ]
                  refine wpAnyH_take (i := 34) (v := .string V6) rfl (by kernel_rfl) (by kernel_rfl) (by kernel_rfl) (fun _ _ _ h => absurd h.1 (by simp)) (Or.inl ⟨by rfl, fun w7 hSw => ?_⟩) (by assumption) ?_
                  · clear hSw
                    have hv_ := E6.out
                    go_simp
                    first | done | rw [hv_]
                  try simp only [Act.put, List.setIfInBounds_toArray, List.set_cons_zero, List.set_cons_succ]
                  refine wpAnyH_take (i := 41) (v := .string V7) rfl (by kernel_rfl) (by kernel_rfl) (by kernel_rfl) (fun _ _ _ h => absurd h.1 (by simp)) (Or.inl ⟨by rfl, fun w7 hSw => ?_⟩) (by assumption) ?_
                  · clear hSw
                    have hv_ := E7.out
                    go_simp
                    first | done | rw [hv_]
                  try simp only [Act.put, List.setIfInBounds_toArray, List.set_cons_zero, List.set_cons_succ]
                  refine wpAnyH_take (i := 42) (v := .string V8) rfl (by kernel_rfl) (by kernel_rfl) (by kernel_rfl) (fun _ _ _ h => absurd h.1 (by simp)) (Or.inl ⟨by rfl, fun w7 hSw => ?_⟩) (by assumption) ?_
                  · clear hSw
                    have hv_ := E8.out
                    go_simp
                    first | done | rw [hv_]
                  try simp only [Act.put, List.setIfInBounds_toArray, List.set_cons_zero, List.set_cons_succ]
                  refine wpAnyH_take (i := 43) (v := .string V9) rfl (by kernel_rfl) (by kernel_rfl) (by kernel_rfl) (fun _ _ _ h => absurd h.1 (by simp)) (Or.inl ⟨by rfl, fun w7 hSw => ?_⟩) (by assumption) ?_
                  · clear hSw
                    have hv_ := E9.out
                    go_simp
                    first | done | rw [hv_]
                  try simp only [Act.put, List.setIfInBounds_toArray, List.set_cons_zero, List.set_cons_succ]
                  refine wpAnyH_ready (rs := [44]) (by kernel_rfl) (by simp) ?_
                  refine AllReadyH.cons rfl (fun K hK => ?_) AllReadyH.nil
                  · skip
                    go_simp
                    refine hK.out _ _ hHeld6 (fun hHeld => ?_)
                    clear hK K
                    refine wpAnyH_done (by kernel_rfl) ?_ _
                    refine ⟨rfl, ?_⟩
                    clear hHeld
                    go_wp2
                    exact ⟨⟨j + 1, V9, _, by omega, by go_num, rfl, rfl, HN, Lib.hid (kTrans hB.out Kt5.out)⟩, by simp [intOf]; omega⟩
    · obtain rfl : j = n := by omega
      obtain rfl : O = S := by rw [← hO.out, ← HS.out, List.take_of_length_le (by rw [Hn.out]; exact Nat.le_refl _)]
      clear hO HS
      go_wp2
      go_ret
      exact ⟨rfl, hB.out⟩
set_option maxRecDepth 100000 in
set_option maxHeartbeats 4000000 in
theorem specBoardText_any (b n : Nat) (wd hi : Int) (l : List Pc) (w : World) (hn : l.length = n) (hp : PcsAt w b 0 l) (hb : b < w.heap.size) (h8 : All8 l) (hw8 : i8 wd) (hh8 : i8 hi) (hmax : n ≤ 1048576) (R : Bool) (hR : R = boardOk wd hi l) (S : ByteArray) (hS : bsT (btQ R wd hi l) = S) :
    Calls Tryd.prog 10 #[.agg #[.int .i8 wd, .int .i8 hi, .slice (some ⟨b, 0, none⟩) n n]] w fun e w' => e = .returned (.string S) ∧ Below w.heap.size w w' := by
  obtain ⟨W0, hW⟩ : ∃ W0, w.alloc (.cells #[.int .i8 wd, .int .i8 hi, .slice (some ⟨b, 0, none⟩) n n] 30) = W0 := ⟨_, rfl⟩
  have k0 : Below w.heap.size w W0 := by rw [← hW]; exact kAlloc (Below.refl _ _) _
  have hx : BdAt W0 w.heap.size 0 wd hi (.slice (some ⟨b, 0, none⟩) n n) := by rw [← hW]; exact BdAt.box w wd hi (.slice (some ⟨b, 0, none⟩) n n) 30
  have hV := l01Ok_any w.heap.size 0 b 0 n n wd hi l W0 hn hx (hp.below k0 hb) (Nat.lt_of_lt_of_le hb k0.size) (Nat.le_refl _) h8 hw8 hh8 hmax R hR
  have HV := Lib.hid hV
  have HT := Lib.hid (fun W2 (h2 : Below W0.heap.size W0 W2) (h : R = true) => l01Text_any w.heap.size b n wd hi l W2 hn (hx.below h2 hx.lt) (hp.below (kTrans k0 h2) hb) (Nat.lt_of_lt_of_le hb (kTrans k0 h2).size) (hR ▸ h) S (by rw [← hS]; unfold btQ; rw [if_pos h]))
  have HK0 := Lib.hid k0
  have HW := Lib.hid hW
  have HS := Lib.hid hS
  clear hn hp hb h8 hR hS hW hx hV k0
  go_enter Tryd.func10, Tryd.ntmps10
  go_upto_region 1 with fail
  try rw [HW.out]
  go_wp2_with fail
  refine HV.out.mono ?_
  rintro e w1 ⟨rfl, hb1⟩
  have HB1 := Lib.hid hb1
  clear hb1 HV HW
  cases R with
  | false =>
    obtain rfl : (⟨#[]⟩ : ByteArray) = S := by rw [← HS.out]; rfl
    clear HS HT
    go_wp2
    go_ret
    exact ⟨rfl, kTrans HK0.out HB1.out⟩
  | true =>
    go_wp2_with fail
    refine (HT.out _ HB1.out (by trivial)).mono ?_
    rintro e w2 ⟨rfl, hb2⟩
    have T2 := Lib.hid (kTrans HK0.out (kTrans HB1.out hb2))
    clear hb2 HT HS
    go_wp2
    go_ret
    exact ⟨rfl, T2.out⟩
end Go.Proofs.YtmllfacgonchnaaDoor
