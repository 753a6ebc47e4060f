/- HazardsIn: both sides. -/
import Derived.Test.YtaapdjidiahmpaaGreatDoorTd
import Derived.Test.YtaapdjidiahmpaaGreatDoorTkN
import Derived.Test.YtaapdjidiahmpaaGreatDoorTkB
namespace Go.Proofs.YtaapdjidiahmpaaGreatDoor
open Go.ChangeShapes Go.WideShapes Go.ChangeAt Go.RowKit Go.Joins Go.Deep
set_option linter.unusedVariables false
set_option linter.unusedSimpArgs false
theorem nilI_ownsH {w : World} {base : Nat} {e : TypeId} : w.ownsRow base e 1 (.slice none 0 0) 0 (flatIn []) := ⟨by simp [flatIn], .inl ⟨rfl, rfl⟩⟩

/-! ### no input is late, or one is -/
def zeros (n : Nat) : List Int := List.replicate n 0
def onlyAt (n i : Nat) (by_ : Int) : List Int := (List.replicate n 0).set i by_
theorem zeros_length (n : Nat) : (zeros n).length = n := by simp [zeros]
theorem onlyAt_length (n i : Nat) (b : Int) : (onlyAt n i b).length = n := by simp [onlyAt]
theorem zeros_get {n j : Nat} (h : j < (zeros n).length) : (zeros n)[j] = 0 := by simp [zeros]
theorem onlyAt_get {n i j : Nat} {b : Int} (h : j < (onlyAt n i b).length) : (onlyAt n i b)[j] = if i = j then b else 0 := by
  simp only [onlyAt, List.getElem_set]
  split
  · rfl
  · simp
theorem zeros_late (n : Nat) : lateAll (zeros n) = true := by simp [lateAll, zeros]
theorem onlyAt_late {n i : Nat} {b : Int} (hb : 0 ≤ b ∧ b ≤ 100) : lateAll (onlyAt n i b) = true := by
  unfold lateAll
  rw [List.all_eq_true]
  intro x hx
  obtain ⟨j, hj, rfl⟩ := List.mem_iff_getElem.1 hx
  rw [onlyAt_get hj]
  split <;> simp <;> omega
theorem bit_pow : ∀ i, i < 6 → ∀ j, j < 6 → bitB (2 ^ i) j = decide (i = j) := by decide +kernel
theorem pow_wrap {i : Nat} (h : i < 6) : IntKind.i64.wrap (2 ^ i) = 2 ^ i := IntWalk.i64_in _ (by
  have : i = 0 ∨ i = 1 ∨ i = 2 ∨ i = 3 ∨ i = 4 ∨ i = 5 := by omega
  rcases this with rfl | rfl | rfl | rfl | rfl | rfl <;> decide)
theorem pow_i64 {i : Nat} (h : i < 6) : wrap64 (2 ^ i) = 2 ^ i := shl1_lt (by omega)
theorem pow_le {i : Nat} (h : i < 6) : (0 : Int) ≤ 2 ^ i ∧ (2 : Int) ^ i ≤ 64 := by
  have : i = 0 ∨ i = 1 ∨ i = 2 ∨ i = 3 ∨ i = 4 ∨ i = 5 := by omega
  rcases this with rfl | rfl | rfl | rfl | rfl | rfl <;> decide
theorem zeros_made {w : World} {n B : Nat} {e : TypeId} (h : w.ownsRow B e 1 (.slice (some ⟨B, 0, none⟩) n n) n (madeCells #[Value.int .i64 0] n).toList) : InsAt w B 0 (zeros n) ∧ B < w.heap.size ∧ (∀ j, w.frozen? ⟨B, j, none⟩ = false) := by
  refine ⟨fun j hj => ?_, (h.lt B rfl).2, fun j => h.frozenAt j⟩
  rw [zeros_length] at hj
  rw [zeros_get, Nat.zero_add, h.cellAt j (by omega), toList_madeCells_one]
  simp [hj]
theorem InsAt.set0 {w : World} {B i : Nat} {l : List Int} {x : Int} (h : InsAt w B 0 l) (hi : i < l.length) : InsAt (w.setCell ⟨B, i, none⟩ (.int .i64 x)) B 0 (l.set i x) := by
  intro j hj
  rw [List.length_set] at hj
  rw [List.getElem_set]
  have h0 := h j hj
  rw [Nat.zero_add] at h0 ⊢
  by_cases e : i = j
  · subst e
    rw [if_pos rfl, World.cell?_setCell_same _ _ _ h0]
  · rw [if_neg e, World.cell?_setCell_other _ _ _ _ (by intro e2; injection e2 with _ h2 _; exact e h2)]
    exact h0
theorem noneLate_any (j : Nat) (w : World) : Calls Tryz.prog 69 #[.int .i64 j] w fun e w' => e = .returned (.int .i64 0) ∧ w = w' := by
  go_enter Tryz.func69, Tryz.ntmps69
  go_wp2
  go_ret
  exact ⟨rfl, rfl⟩
theorem noneTold {n : Nat} (w : World) : ∀ W, Below w.heap.size w W → ∀ (j : Nat) (hj : j < (zeros n).length), Calls Tryz.prog 69 #[.int .i64 j] W fun e w' => e = .returned (.int .i64 (zeros n)[j]) ∧ W = w' := by
  intro W _ j hj
  rw [zeros_get]
  exact noneLate_any j W
theorem lateBy_any (r b : Int) (w : World) : Calls Tryz.prog 80 #[.int .i64 r, .int .i64 b] w fun e w' => e = .returned (.func (.func 106) #[] #[.pointer (some ⟨w.heap.size, 0, none⟩), .pointer (some ⟨w.heap.size + 1, 0, none⟩)]) ∧
    w' = (w.alloc (.cells #[.int .i64 r] 2)).alloc (.cells #[.int .i64 b] 2) := by
  go_enter Tryz.func80, Tryz.ntmps80
  go_wp2
  go_ret
  exact ⟨rfl, rfl⟩
theorem lateBy1_any (g1 g2 j : Nat) (r b : Int) (w : World) (h1 : w.cell? ⟨g1, 0, none⟩ = some (.int .i64 r)) (h2 : w.cell? ⟨g2, 0, none⟩ = some (.int .i64 b)) (hr : 0 ≤ r ∧ r ≤ 64) (hj : j ≤ 64) :
    Calls Tryz.prog 106 #[.int .i64 j, .pointer (some ⟨g1, 0, none⟩), .pointer (some ⟨g2, 0, none⟩)] w fun e w' => e = .returned (.int .i64 (if bitB r j then b else 0)) ∧ w = w' := by
  have l1 := World.block_lt_of_cell? w _ h1
  have l2 := World.block_lt_of_cell? w _ h2
  have H := Lib.hid (hasOne_any r j w hr.1 (by omega) hj)
  cases hb : bitB r j with
  | true =>
    rw [hb] at H
    go_enter Tryz.func106, Tryz.ntmps106
    go_wp2_with fail
    refine H.out.mono ?_
    rintro e w1 ⟨rfl, rfl⟩
    go_wp2
    go_ret
    exact ⟨rfl, rfl⟩
  | false =>
    rw [hb] at H
    go_enter Tryz.func106, Tryz.ntmps106
    go_wp2_with fail
    refine H.out.mono ?_
    rintro e w1 ⟨rfl, rfl⟩
    go_wp2
    go_ret
    exact ⟨rfl, rfl⟩
theorem byTold {n i g1 g2 : Nat} {b : Int} (w : World) (hi : i < n) (hn : n ≤ 6) (h1 : w.cell? ⟨g1, 0, none⟩ = some (.int .i64 (2 ^ i))) (h2 : w.cell? ⟨g2, 0, none⟩ = some (.int .i64 b)) : ∀ W, Below w.heap.size w W → ∀ (j : Nat) (hj : j < (onlyAt n i b).length), Calls Tryz.prog 106 #[.int .i64 j, .pointer (some ⟨g1, 0, none⟩), .pointer (some ⟨g2, 0, none⟩)] W fun e w' => e = .returned (.int .i64 (onlyAt n i b)[j]) ∧ W = w' := by
  intro W hW j hj
  have l1 := World.block_lt_of_cell? w _ h1
  have l2 := World.block_lt_of_cell? w _ h2
  have hj6 : j < n := by rw [onlyAt_length] at hj; exact hj
  have h := lateBy1_any g1 g2 j (2 ^ i) b W ((hW.cell (p := ⟨g1, 0, none⟩) l1).trans h1) ((hW.cell (p := ⟨g2, 0, none⟩) l2).trans h2) (pow_le (by omega)) (by omega)
  rw [bit_pow i (by omega) j (by omega)] at h
  rw [onlyAt_get hj]
  by_cases e : i = j
  · rw [if_pos e]; rw [if_pos (by simpa using e)] at h; exact h
  · rw [if_neg e]; rw [if_neg (by simpa using e)] at h; exact h
/-- the inputs with which the outputs are others -/
def hazL (O0 : Int) (f : Nat → Int) : Nat → List Int
  | 0 => []
  | k + 1 => hazL O0 f k ++ (if f k = O0 then [] else [(k : Int)])
theorem hazL_len (O0 : Int) (f : Nat → Int) : ∀ k, (hazL O0 f k).length ≤ k
  | 0 => by simp [hazL]
  | k + 1 => by have := hazL_len O0 f k; simp only [hazL, List.length_append]; split <;> simp <;> omega
theorem hazL_wf (O0 : Int) (f : Nat → Int) : ∀ k, k ≤ 100 → InsWf (hazL O0 f k)
  | 0, _ => fun x hx => by simp [hazL] at hx
  | k + 1, h => fun x hx => by
    simp only [hazL, List.mem_append] at hx
    rcases hx with hx | hx
    · exact hazL_wf O0 f k (by omega) x hx
    · split at hx
      · simp at hx
      · rw [List.mem_singleton.1 hx]; exact wf64' (by omega)
/-- what a row does if none is late, and if one is -/
structure HazAt (wd hi row : Int) (l : List Pc) (p : List Po) (c : List Cl) (n : Nat) (by_ : Int) (O0 : Int) (f : Nat → Int) : Prop where
  plain : ∃ lr, RowRun wd hi row l p c (zeros n) lr ∧ outsB (ticksL l lr c) 0 0 = O0
  one : ∀ i, i < n → ∃ lr, RowRun wd hi row l p c (onlyAt n i by_) lr ∧ outsB (ticksL l lr c) 0 0 = f i
def hazOk (n : Nat) (row by_ : Int) : Bool := decide (0 ≤ row ∧ row < 2 ^ n) && decide (0 ≤ by_ ∧ by_ ≤ 100)
theorem haz_pick {M O : Bool} {wd hi row by_ : Int} {l : List Pc} {p : List Po} {c : List Cl} (hM : M = machOk wd hi l p c) (hO : O = hazOk p.length row by_) :
    ∃ (O0 : Int) (f : Nat → Int) (T : List Int), (M = true → O = true → HazAt wd hi row l p c p.length by_ O0 f ∧ hazL O0 f p.length = T) ∧ InsWf T ∧ T.length ≤ 1048576 := by
  by_cases h : M = true ∧ O = true
  · obtain ⟨rfl, rfl⟩ := h
    have ho : (0 ≤ row ∧ row < 2 ^ p.length) ∧ (0 ≤ by_ ∧ by_ ≤ 100) := by have := hO.symm; unfold hazOk at this; simpa using this
    obtain ⟨lr0, h0⟩ := row_exists row hM.symm (zeros_late p.length)
    have hex := fun i => row_exists row hM.symm (onlyAt_late (n := p.length) (i := i) ho.2)
    have h6 := (machOk_parts hM.symm).2.1.2.1
    refine ⟨outsB (ticksL l lr0 c) 0 0, fun i => outsB (ticksL l (Classical.choose (hex i)) c) 0 0, _, fun _ _ => ⟨⟨⟨lr0, h0, rfl⟩, fun i _ => ⟨_, Classical.choose_spec (hex i), rfl⟩⟩, rfl⟩, hazL_wf _ _ _ (by omega), ?_⟩
    have := hazL_len (outsB (ticksL l lr0 c) 0 0) (fun i => outsB (ticksL l (Classical.choose (hex i)) c) 0 0) p.length
    omega
  · exact ⟨0, fun _ => 0, [], fun h1 h2 => absurd ⟨h1, h2⟩ h, fun x hx => by simp at hx, by simp⟩
set_option maxRecDepth 100000 in
set_option maxHeartbeats 16000000 in
theorem implHazardsIn_any (b k q m n r : Nat) (wd hi row by_ : Int) (l : List Pc) (p : List Po) (c : List Cl) (w : World) (hp : PcsAt w b 0 l) (hg : PosAt w k 0 p) (hj : ClsAt w q 0 c) (zb : b < w.heap.size) (zk : k < w.heap.size) (zq : q < w.heap.size)
    (hm : l.length = m) (hn : p.length = n) (hr : c.length = r) (h8 : All8 l) (hw : PosWf p) (bw : i8 wd) (bh : i8 hi) (wr : (Lit.int .i64 row).wf = true) (wb : (Lit.int .i64 by_).wf = true) (m0 : m ≤ 1048576) (m1 : n ≤ 1048576) (m2 : r ≤ 1048576) (M O : Bool) (hM : M = machOk wd hi l p c) (hO : O = hazOk n row by_) (hst : StayAt w) (O0 : Int) (f : Nat → Int) (T : List Int) (hT : M = true → O = true → HazAt wd hi row l p c n by_ O0 f ∧ hazL O0 f n = T) (L : List Int) (C : Int) (hQ : rowQ M O T = (L, C)) :
    Calls Tryz.prog 41 #[.agg #[.int .i8 wd, .int .i8 hi, .slice (some ⟨b, 0, none⟩) m m, .slice (some ⟨k, 0, none⟩) n n, .slice (some ⟨q, 0, none⟩) r r], .int .i64 row, .int .i64 by_] w (InPost2 L C w) := by
  obtain ⟨i0, hi0, hz0, hzz1, hzz2⟩ := info_parts info_i64n
  have Hi := Lib.hid hi0
  have Hz0 := Lib.hid hz0
  have Hz1 := Lib.hid hzz1
  have Hz2 := Lib.hid hzz2
  have ka : Below w.heap.size w (w.alloc (.cells #[.int .i8 wd, .int .i8 hi, .slice (some ⟨b, 0, none⟩) m m, .slice (some ⟨k, 0, none⟩) n n, .slice (some ⟨q, 0, none⟩) r r] 40)) := by repeat (first | with_reducible exact Below.refl _ _ | (with_reducible refine kSet ?_ ?hB _; case hB => (simp; try omega)) | with_reducible refine kAlloc ?_ _ | with_reducible refine Below.drew ?_ | with_reducible refine kDrewN ?_ _ | with_reducible refine kTrans ?_ (by assumption))
  have HV := Lib.hid (by have h := deviceOf_any b k q wd hi l p c _ (hp.below ka zb) (hg.below ka zk) (hj.below ka zq) (Nat.lt_of_lt_of_le zb ka.size) (Nat.lt_of_lt_of_le zk ka.size) (Nat.lt_of_lt_of_le zq ka.size) h8 hw (by omega) (by omega) (by omega) M hM; rw [hm, hn, hr] at h; exact h)
  have HP := Lib.hid (fun W (h : Below w.heap.size w W) => hp.below h zb)
  have HG := Lib.hid (fun W (h : Below w.heap.size w W) => hg.below h zk)
  have HC := Lib.hid (fun W (h : Below w.heap.size w W) => hj.below h zq)
  have HS := Lib.hid (fun W (h : Below w.heap.size w W) => hst.below h)
  have HT0 := Lib.hid hT
  have HQ := Lib.hid hQ
  have HM := Lib.hid hM
  have HO := Lib.hid hO
  have Hn := Lib.hid hn
  have Hm := Lib.hid hm
  have Hr := Lib.hid hr
  clear hp hg hj h8 hw hi0 hz0 hzz1 hzz2 hst hT hQ hM hO hn hm hr
  cases M with
  | false =>
    obtain ⟨rfl, rfl⟩ := pair_LI (show (([] : List Int), (1 : Int)) = (L, C) from by have h := HQ.out; cases O <;> exact h)
    clear HP HG HC HS HT0 HQ HM HO
    go_enter Tryz.func41, Tryz.ntmps41
    go_wp2_with fail
    refine HV.out.mono ?_
    rintro e w1 ⟨_, h1, hb1⟩
    obtain rfl := h1 rfl
    have T1 := kTrans ka hb1
    clear HV h1 hb1
    go_wp2
    exact bodyPost_ret (v := .tuple #[.slice none 0 0, .int .i64 1]) (by simp [results, Tryz.results41, go_sem]) rfl ⟨_, rfl, .empty _ _ rfl, by repeat (first | with_reducible exact Below.refl _ _ | (with_reducible refine kSet ?_ ?hB _; case hB => (simp; try omega)) | with_reducible refine kAlloc ?_ _ | with_reducible refine Below.drew ?_ | with_reducible refine kDrewN ?_ _ | with_reducible refine kTrans ?_ (by assumption))⟩
  | true =>
    have hmp := machOk_parts HM.out.symm
    rw [Hm.out, Hn.out, Hr.out] at hmp
    have h6 := hmp.2.1.2.1.2
    have hr8 := hmp.2.1.2.2.2
    have h60 := hmp.2.1.1
    by_cases hrow : 0 ≤ row ∧ row < 2 ^ n
    · by_cases hby : 0 ≤ by_ ∧ by_ ≤ 100
      · obtain rfl : O = true := by rw [HO.out]; unfold hazOk; rw [decide_eq_true hrow, decide_eq_true hby]; rfl
        obtain ⟨rfl, rfl⟩ := pair_LI (show (T, (0 : Int)) = (L, C) from HQ.out)
        obtain ⟨hHz, hT⟩ := HT0.out rfl rfl
        have HHz := Lib.hid hHz
        have HTT := Lib.hid hT
        have hps := pow_small h6
        have hr64 : 0 ≤ row ∧ row ≤ 64 := ⟨hrow.1, by omega⟩
        clear HT0 HQ HM HO hT hHz hmp
        go_enter Tryz.func41, Tryz.ntmps41
        go_wp2_with fail
        refine HV.out.mono ?_
        rintro e w1 ⟨h1, _, hb1⟩
        obtain ⟨B, rfl, hmpB⟩ := h1 rfl
        have T1 := kTrans ka hb1
        have HMp := Lib.hid hmpB
        clear HV h1 hb1 hmpB
        obtain ⟨W, hW⟩ : ∃ W, w1.alloc (.cells #[.int .i8 wd, .int .i8 hi, .map (some B), .int .i8 wd, .int .i8 hi, .slice (some ⟨b, 0, none⟩) m m, .slice (some ⟨k, 0, none⟩) n n, .slice (some ⟨q, 0, none⟩) r r] 84) = W := ⟨_, rfl⟩
        have kW : Below w1.heap.size w1 W := by rw [← hW]; exact kAlloc (Below.refl _ _) _
        have bD : W.heap[w1.heap.size]? = some (.cells #[.int .i8 wd, .int .i8 hi, .map (some B), .int .i8 wd, .int .i8 hi, .slice (some ⟨b, 0, none⟩) m m, .slice (some ⟨k, 0, none⟩) n n, .slice (some ⟨q, 0, none⟩) r r] 84 (0, 0)) := by rw [← hW]; exact heap_alloc_new _ _
        have HD := Lib.hid (fun W2 (h2 : Below w1.heap.size w1 W2) => (⟨HMp.out.below h2, HP.out _ (kTrans T1 h2), HG.out _ (kTrans T1 h2), HC.out _ (kTrans T1 h2), Nat.lt_of_lt_of_le zb (kTrans T1 h2).size, Nat.lt_of_lt_of_le zk (kTrans T1 h2).size, Nat.lt_of_lt_of_le zq (kTrans T1 h2).size, HS.out _ (kTrans T1 h2)⟩ : DvAt W2 B b k q l p c))
        have HW := Lib.hid hW
        have lD := blk_lt bD
        have BD := Lib.hid (fun W2 (h2 : Below W.heap.size W W2) => blk_below bD h2)
        have c0 : W.cell? ⟨w1.heap.size, 0, none⟩ = some (.int .i8 wd) := cell_of_row _ _ 0 _ _ _ bD
        have c1 : W.cell? ⟨w1.heap.size, 1, none⟩ = some (.int .i8 hi) := cell_of_row _ _ 1 _ _ _ bD
        have c2 : W.cell? ⟨w1.heap.size, 2, none⟩ = some (.map (some B)) := cell_of_row _ _ 2 _ _ _ bD
        have c3 : W.cell? ⟨w1.heap.size, 3, none⟩ = some (.int .i8 wd) := cell_of_row _ _ 3 _ _ _ bD
        have c4 : W.cell? ⟨w1.heap.size, 4, none⟩ = some (.int .i8 hi) := cell_of_row _ _ 4 _ _ _ bD
        have c5 : W.cell? ⟨w1.heap.size, 5, none⟩ = some (.slice (some ⟨b, 0, none⟩) m m) := cell_of_row _ _ 5 _ _ _ bD
        have c6 : W.cell? ⟨w1.heap.size, 6, none⟩ = some (.slice (some ⟨k, 0, none⟩) n n) := cell_of_row _ _ 6 _ _ _ bD
        have c7 : W.cell? ⟨w1.heap.size, 7, none⟩ = some (.slice (some ⟨q, 0, none⟩) r r) := cell_of_row _ _ 7 _ _ _ bD
        clear hW bD
        go_upto_region 2 with fail
        try rw [HW.out]
        clear HW
        go_wp2_with fail
        refine (hasRow_any B wd hi row (some ⟨b, 0, none⟩) (some ⟨k, 0, none⟩) (some ⟨q, 0, none⟩) m n r m n r _ h6 true (by symm; simpa using hrow)).mono ?_
        rintro e w2 ⟨rfl, hb2⟩
        have kW2 := hb2
        clear c0 c1 c2 c3 c4 c5 c6 c7
        have c0 : w2.cell? ⟨w1.heap.size, 0, none⟩ = some (.int .i8 wd) := cell_of_row _ _ 0 _ _ _ (BD.out _ kW2)
        have c1 : w2.cell? ⟨w1.heap.size, 1, none⟩ = some (.int .i8 hi) := cell_of_row _ _ 1 _ _ _ (BD.out _ kW2)
        have c2 : w2.cell? ⟨w1.heap.size, 2, none⟩ = some (.map (some B)) := cell_of_row _ _ 2 _ _ _ (BD.out _ kW2)
        have c3 : w2.cell? ⟨w1.heap.size, 3, none⟩ = some (.int .i8 wd) := cell_of_row _ _ 3 _ _ _ (BD.out _ kW2)
        have c4 : w2.cell? ⟨w1.heap.size, 4, none⟩ = some (.int .i8 hi) := cell_of_row _ _ 4 _ _ _ (BD.out _ kW2)
        have c5 : w2.cell? ⟨w1.heap.size, 5, none⟩ = some (.slice (some ⟨b, 0, none⟩) m m) := cell_of_row _ _ 5 _ _ _ (BD.out _ kW2)
        have c6 : w2.cell? ⟨w1.heap.size, 6, none⟩ = some (.slice (some ⟨k, 0, none⟩) n n) := cell_of_row _ _ 6 _ _ _ (BD.out _ kW2)
        have c7 : w2.cell? ⟨w1.heap.size, 7, none⟩ = some (.slice (some ⟨q, 0, none⟩) r r) := cell_of_row _ _ 7 _ _ _ (BD.out _ kW2)
        have lD2 := Nat.lt_of_lt_of_le lD kW2.size
        go_wp2_with fail
        refine (isLate_any by_ _ true (by symm; simpa using hby)).mono ?_
        rintro e w3 ⟨rfl, rfl⟩
        obtain ⟨lr0, hrun0, hO0⟩ := HHz.out.plain
        have HO0 := Lib.hid (outputsN_any B b k q m n r wd hi row l p c (zeros n) w2 (HD.out _ (kTrans kW kW2)) Hm.out Hn.out Hr.out (zeros_length n) (noneTold w2) h6 hr8 hr64 (zeros_late n) lr0 hrun0 _ rfl O0 hO0)
        clear hrun0 hO0
        go_wp2_with fail
        refine HO0.out.mono ?_
        rintro e w4 ⟨rfl, hb4⟩
        have kW4 := kTrans kW2 hb4
        clear c0 c1 c2 c3 c4 c5 c6 c7 HO0
        have c0 : w4.cell? ⟨w1.heap.size, 0, none⟩ = some (.int .i8 wd) := cell_of_row _ _ 0 _ _ _ (BD.out _ kW4)
        have c1 : w4.cell? ⟨w1.heap.size, 1, none⟩ = some (.int .i8 hi) := cell_of_row _ _ 1 _ _ _ (BD.out _ kW4)
        have c2 : w4.cell? ⟨w1.heap.size, 2, none⟩ = some (.map (some B)) := cell_of_row _ _ 2 _ _ _ (BD.out _ kW4)
        have c3 : w4.cell? ⟨w1.heap.size, 3, none⟩ = some (.int .i8 wd) := cell_of_row _ _ 3 _ _ _ (BD.out _ kW4)
        have c4 : w4.cell? ⟨w1.heap.size, 4, none⟩ = some (.int .i8 hi) := cell_of_row _ _ 4 _ _ _ (BD.out _ kW4)
        have c5 : w4.cell? ⟨w1.heap.size, 5, none⟩ = some (.slice (some ⟨b, 0, none⟩) m m) := cell_of_row _ _ 5 _ _ _ (BD.out _ kW4)
        have c6 : w4.cell? ⟨w1.heap.size, 6, none⟩ = some (.slice (some ⟨k, 0, none⟩) n n) := cell_of_row _ _ 6 _ _ _ (BD.out _ kW4)
        have c7 : w4.cell? ⟨w1.heap.size, 7, none⟩ = some (.slice (some ⟨q, 0, none⟩) r r) := cell_of_row _ _ 7 _ _ _ (BD.out _ kW4)
        have lD4 := Nat.lt_of_lt_of_le lD kW4.size
        have own0 : Hid (w4.ownsRow w4.heap.size 2 1 (.slice none 0 0) (hazL O0 f 0).length (flatIn (hazL O0 f 0))) := Lib.hid nilI_ownsH
        clear hb4 hb2 kW2 lD2
        go_wp2
        clear c0 c1 c2 c3 c4 c5 c6 c7
        go_loopw [10, 12, 36] (fun out _ i wr => ∃ j : Nat, j ≤ n ∧ i = .int .i64 j ∧ Hid (wr.ownsRow w4.heap.size 2 1 out (hazL O0 f j).length (flatIn (hazL O0 f j))) ∧ Below w4.heap.size w4 wr) (fun _ _ i _ => n - (intOf i).toNat)
        case atStart => exact ⟨0, by omega, rfl, own0, Below.refl _ _⟩
        case round =>
          clear own0
          obtain ⟨j, hj, rfl, hown, hbr⟩ := hrel
          obtain ⟨va, vc, rfl⟩ := owns_slice hown.out
          have kWr := kTrans kW4 hbr
          have c0 : wr.cell? ⟨w1.heap.size, 0, none⟩ = some (.int .i8 wd) := cell_of_row _ _ 0 _ _ _ (BD.out _ kWr)
          have c1 : wr.cell? ⟨w1.heap.size, 1, none⟩ = some (.int .i8 hi) := cell_of_row _ _ 1 _ _ _ (BD.out _ kWr)
          have c2 : wr.cell? ⟨w1.heap.size, 2, none⟩ = some (.map (some B)) := cell_of_row _ _ 2 _ _ _ (BD.out _ kWr)
          have c3 : wr.cell? ⟨w1.heap.size, 3, none⟩ = some (.int .i8 wd) := cell_of_row _ _ 3 _ _ _ (BD.out _ kWr)
          have c4 : wr.cell? ⟨w1.heap.size, 4, none⟩ = some (.int .i8 hi) := cell_of_row _ _ 4 _ _ _ (BD.out _ kWr)
          have c5 : wr.cell? ⟨w1.heap.size, 5, none⟩ = some (.slice (some ⟨b, 0, none⟩) m m) := cell_of_row _ _ 5 _ _ _ (BD.out _ kWr)
          have c6 : wr.cell? ⟨w1.heap.size, 6, none⟩ = some (.slice (some ⟨k, 0, none⟩) n n) := cell_of_row _ _ 6 _ _ _ (BD.out _ kWr)
          have c7 : wr.cell? ⟨w1.heap.size, 7, none⟩ = some (.slice (some ⟨q, 0, none⟩) r r) := cell_of_row _ _ 7 _ _ _ (BD.out _ kWr)
          have lDr := Nat.lt_of_lt_of_le lD kWr.size
          have Hblk := Lib.hid (owns_block hown.out)
          have hHl := hazL_len O0 f j
          by_cases hlt : j < n
          · have hpw := pow_i64 (show j < 6 by omega)
            have hpw2 := pow_wrap (show j < 6 by omega)
            obtain ⟨lr, hrun, hO⟩ := HHz.out.one j hlt
            have HOj := Lib.hid (fun (v1 : World) (kv : Below wr.heap.size wr v1) (g1 g2 : Nat) (e1 : v1.cell? ⟨g1, 0, none⟩ = some (.int .i64 (2 ^ j))) (e2 : v1.cell? ⟨g2, 0, none⟩ = some (.int .i64 by_)) => outputsB_any g1 g2 B b k q m n r wd hi row l p c (onlyAt n j by_) v1 (HD.out _ (kTrans kW (kTrans kWr kv))) Hm.out Hn.out Hr.out (onlyAt_length n j by_) (byTold v1 hlt h6 e1 e2) h6 hr8 hr64 (onlyAt_late hby) lr hrun _ rfl (f j) hO)
            clear hrun hO
            go_wp2_with fail
            go_region_held3 (fun w' => w'.cell? ⟨w1.heap.size, 0, none⟩ = some (.int .i8 wd) ∧ w'.cell? ⟨w1.heap.size, 1, none⟩ = some (.int .i8 hi) ∧ w'.cell? ⟨w1.heap.size, 2, none⟩ = some (.map (some B)) ∧ w'.cell? ⟨w1.heap.size, 3, none⟩ = some (.int .i8 wd) ∧ w'.cell? ⟨w1.heap.size, 4, none⟩ = some (.int .i8 hi) ∧ w'.cell? ⟨w1.heap.size, 5, none⟩ = some (.slice (some ⟨b, 0, none⟩) m m) ∧ w'.cell? ⟨w1.heap.size, 6, none⟩ = some (.slice (some ⟨k, 0, none⟩) n n) ∧ w'.cell? ⟨w1.heap.size, 7, none⟩ = some (.slice (some ⟨q, 0, none⟩) r r)) (go_keep)
              (first
              | (go_at_call 53
                 refine (HOj.out v1 kv1 _ _ eg1 eg2).mono ?_
                 rintro e v2 ⟨rfl, b2⟩
                 have kv2 := kTrans kv1 b2
                 have c0 := (b2.cell (p := ⟨w1.heap.size, 0, none⟩) (Nat.lt_of_lt_of_le lDr kv1.size)).trans c0
                 have c1 := (b2.cell (p := ⟨w1.heap.size, 1, none⟩) (Nat.lt_of_lt_of_le lDr kv1.size)).trans c1
                 have c2 := (b2.cell (p := ⟨w1.heap.size, 2, none⟩) (Nat.lt_of_lt_of_le lDr kv1.size)).trans c2
                 have c3 := (b2.cell (p := ⟨w1.heap.size, 3, none⟩) (Nat.lt_of_lt_of_le lDr kv1.size)).trans c3
                 have c4 := (b2.cell (p := ⟨w1.heap.size, 4, none⟩) (Nat.lt_of_lt_of_le lDr kv1.size)).trans c4
                 have c5 := (b2.cell (p := ⟨w1.heap.size, 5, none⟩) (Nat.lt_of_lt_of_le lDr kv1.size)).trans c5
                 have c6 := (b2.cell (p := ⟨w1.heap.size, 6, none⟩) (Nat.lt_of_lt_of_le lDr kv1.size)).trans c6
                 have c7 := (b2.cell (p := ⟨w1.heap.size, 7, none⟩) (Nat.lt_of_lt_of_le lDr kv1.size)).trans c7)
              | (go_at_call 80
                 refine (lateBy_any _ _ _).mono ?_
                 rintro e v1 ⟨rfl, hv1⟩
                 try rw [hpw2] at hv1
                 have kv1 : Below wr.heap.size wr v1 := by rw [hv1]; exact kAlloc (kAlloc (by first | exact Below.refl _ _ | exact Below.drew (Below.refl _ _)) _) _
                 have eg1 : v1.cell? ⟨wr.heap.size, 0, none⟩ = some (.int .i64 (2 ^ j)) := by rw [hv1]; exact cell_of_row _ _ 0 _ _ _ (blk_below (heap_alloc_new _ _) (kAlloc (Below.refl _ _) _))
                 have eg2 : v1.cell? ⟨wr.heap.size + 1, 0, none⟩ = some (.int .i64 by_) := by rw [hv1]; exact cell_of_row _ _ 0 _ _ _ (by have h := heap_alloc_new (World.alloc (World.drew wr) (.cells #[.int .i64 (2 ^ j)] 2)) (.cells #[.int .i64 by_] 2); simpa only [World.size_alloc] using h)
                 have c0 := (kv1.cell (p := ⟨w1.heap.size, 0, none⟩) (lDr)).trans c0
                 have c1 := (kv1.cell (p := ⟨w1.heap.size, 1, none⟩) (lDr)).trans c1
                 have c2 := (kv1.cell (p := ⟨w1.heap.size, 2, none⟩) (lDr)).trans c2
                 have c3 := (kv1.cell (p := ⟨w1.heap.size, 3, none⟩) (lDr)).trans c3
                 have c4 := (kv1.cell (p := ⟨w1.heap.size, 4, none⟩) (lDr)).trans c4
                 have c5 := (kv1.cell (p := ⟨w1.heap.size, 5, none⟩) (lDr)).trans c5
                 have c6 := (kv1.cell (p := ⟨w1.heap.size, 6, none⟩) (lDr)).trans c6
                 have c7 := (kv1.cell (p := ⟨w1.heap.size, 7, none⟩) (lDr)).trans c7
                 clear hv1))
            by_cases hs : f j = O0
            · have hs2 : (f j == O0) = true := by simpa using hs
              have hR : Hid (v2.ownsRow w4.heap.size 2 1 (.slice va (hazL O0 f j).length vc) (hazL O0 f (j + 1)).length (flatIn (hazL O0 f (j + 1)))) := Lib.hid (by have h := owns_below hown.out kv2; simp only [hazL, if_pos hs, List.append_nil]; exact h)
              have T2 := kTrans hbr kv2
              go_wp2
              exact ⟨⟨j + 1, by omega, by go_num, hR, T2⟩, by simp [intOf]; omega⟩
            · have hs2 : (f j == O0) = false := by simpa using hs
              have hown2 := Lib.hid (owns_below hown.out kv2)
              have T2 := kTrans hbr kv2
              have hRl : hazL O0 f (j + 1) = hazL O0 f j ++ [(j : Int)] := by simp only [hazL, if_neg hs]
              obtain ⟨A, hA⟩ : ∃ A, hazL O0 f j = A := ⟨_, rfl⟩
              rw [hA] at hown2 hRl hHl Hblk ⊢
              have HRl := Lib.hid hRl
              clear hRl hA hown c0 c1 c2 c3 c4 c5 c6 c7
              go_wp2_with (at_builtin; refine wpList_append_own _ rfl _ _ 30 rfl w4.heap.size 2 i0 _ 1 8 Tryz.underlying30 Hi.out Hz0.out Hz1.out Hz2.out rfl (by decide) (.slice va A.length vc) A.length (flatIn A) rfl (owns_below hown2.out (kAlloc (Below.refl _ _) _)) ⟨v2.heap.size, 0, none⟩ 1 1 [.int .i64 j] rfl rfl (World.news_of_block (cs := #[.int .i64 j]) (heap_alloc_new _ _)) (by simp [Value.oneCell']) ?qc4 ?qc5 ?qc6 ?_)
              case qc4 => unfold maxLen; omega
              case qc5 => omega
              case qc6 => have := T2.size; simp; omega
              intro v6 w6 hown6 hgr hnil
              have Hown6 := Lib.hid (show w6.ownsRow w4.heap.size 2 1 v6 (hazL O0 f (j + 1)).length (flatIn (hazL O0 f (j + 1))) by rw [HRl.out, flatIn_end, List.length_append]; exact hown6)
              have T6 : Below w4.heap.size w4 w6 := grown_below (v := .slice va A.length vc) (kAlloc T2 _) hgr (by intro q hq; exact (Hblk.out q hq).1)
              clear hown6 hgr hnil
              go_wp2
              exact ⟨⟨j + 1, by omega, by go_num, Hown6, T6⟩, by simp [intOf]; omega⟩
          · obtain rfl : j = n := by omega
            have T4 := kTrans (kTrans T1 (kTrans kW kW4)) hbr
            have HW2 := Lib.hid ((SlWIn.of_owns hown.out).mono (kTrans T1 (kTrans kW kW4)).size (Nat.le_refl _))
            rw [HTT.out] at HW2 ⊢
            clear hown c0 c1 c2 c3 c4 c5 c6 c7
            go_wp2
            exact bodyPost_ret (v := .tuple #[.slice va T.length vc, .int .i64 0]) (by simp [results, Tryz.results41, go_sem]) rfl ⟨_, rfl, HW2.out, T4⟩
      · obtain rfl : O = false := by rw [HO.out]; unfold hazOk; rw [decide_eq_false hby]; simp
        obtain ⟨rfl, rfl⟩ := pair_LI (show (([] : List Int), (2 : Int)) = (L, C) from HQ.out)
        clear HP HG HC HS HT0 HQ HM HO hmp
        go_enter Tryz.func41, Tryz.ntmps41
        go_wp2_with fail
        refine HV.out.mono ?_
        rintro e w1 ⟨h1, _, hb1⟩
        obtain ⟨B, rfl, hmpB⟩ := h1 rfl
        have T1 := kTrans ka hb1
        clear HV h1 hb1 hmpB
        go_wp2_with fail
        refine (hasRow_any B wd hi row (some ⟨b, 0, none⟩) (some ⟨k, 0, none⟩) (some ⟨q, 0, none⟩) m n r m n r _ h6 true (by symm; simpa using hrow)).mono ?_
        rintro e w2 ⟨rfl, hb2⟩
        go_wp2_with fail
        refine (isLate_any by_ _ false (by symm; simpa using hby)).mono ?_
        rintro e w3 ⟨rfl, rfl⟩
        have T2 : Below w.heap.size w w2 := kTrans (kAlloc T1 _) hb2
        clear hb2 T1
        go_wp2
        exact bodyPost_ret (v := .tuple #[.slice none 0 0, .int .i64 2]) (by simp [results, Tryz.results41, go_sem]) rfl ⟨_, rfl, .empty _ _ rfl, T2⟩
    · obtain rfl : O = false := by rw [HO.out]; unfold hazOk; rw [decide_eq_false hrow]; simp
      obtain ⟨rfl, rfl⟩ := pair_LI (show (([] : List Int), (2 : Int)) = (L, C) from HQ.out)
      clear HP HG HC HS HT0 HQ HM HO hmp
      go_enter Tryz.func41, Tryz.ntmps41
      go_wp2_with fail
      refine HV.out.mono ?_
      rintro e w1 ⟨h1, _, hb1⟩
      obtain ⟨B, rfl, hmpB⟩ := h1 rfl
      have T1 := kTrans ka hb1
      clear HV h1 hb1 hmpB
      go_wp2_with fail
      refine (hasRow_any B wd hi row (some ⟨b, 0, none⟩) (some ⟨k, 0, none⟩) (some ⟨q, 0, none⟩) m n r m n r _ h6 false (by symm; simpa using hrow)).mono ?_
      rintro e w2 ⟨rfl, hb2⟩
      have T2 : Below w.heap.size w w2 := kTrans (kAlloc T1 _) hb2
      clear hb2 T1
      go_wp2
      exact bodyPost_ret (v := .tuple #[.slice none 0 0, .int .i64 2]) (by simp [results, Tryz.results41, go_sem]) rfl ⟨_, rfl, .empty _ _ rfl, T2⟩
end Go.Proofs.YtaapdjidiahmpaaGreatDoor
