/- ReadBoard: the model. -/
import Derived.Test.YtobhppkcgioheaaDoorRbM
import Derived.Test.YtobhppkcgioheaaDoorG2
import Derived.Test.YtobhppkcgioheaaDoorG4
namespace Go.Proofs.YtobhppkcgioheaaDoor
open Go.ChangeShapes Go.WideShapes Go.ChangeAt Go.RowKit Go.Joins Go.Deep
set_option linter.unusedVariables false
set_option linter.unusedSimpArgs false

set_option maxHeartbeats 2000000 in
theorem l01Ok_nil (bb cap : Nat) (a : Option Addr) (wd hi : Int) (w : World) (hbd : BdAt w bb 0 wd hi (.slice a 0 cap)) (hw8 : i8 wd) (hh8 : i8 hi) (R : Bool) (hR : R = boardOk wd hi []) :
    Calls Tryd.prog 50 #[.pointer (some ⟨bb, 0, none⟩)] w fun e w' => e = .returned (.bool R) ∧ Below w.heap.size w w' := by
  obtain ⟨q0, q1, q2⟩ : w.cell? ⟨bb, 0, none⟩ = some (.int .i8 wd) ∧ w.cell? ⟨bb, 1, none⟩ = some (.int .i8 hi) ∧ w.cell? ⟨bb, 2, none⟩ = some (.slice a 0 cap) := hbd
  unfold i8 at hw8 hh8
  have lb := World.block_lt_of_cell? w _ q0
  by_cases h1 : 1 ≤ wd ∧ wd ≤ 24
  · by_cases h2 : 1 ≤ hi ∧ hi ≤ 24
    · obtain rfl : R = true := by rw [hR]; unfold boardOk okFrom; simp; omega
      clear hR
      go_enter Tryd.func50, Tryd.ntmps50
      go_wp2_with (go_at_call 101; refine (l00In_yes _ _ _ _ (by omega) (by omega)).mono ?_; rintro e w' ⟨rfl, rfl⟩)
      go_loopw [3] (fun vi wr => vi = .int .i64 0 ∧ w = wr) (fun _ _ => 0)
      case atStart => exact ⟨rfl, rfl⟩
      case round =>
        obtain ⟨rfl, rfl⟩ := hrel
        go_wp2
        go_ret
        exact ⟨rfl, Below.refl _ _⟩
    · obtain rfl : R = false := by rw [hR]; unfold boardOk; simp; intro _ _ _ _; omega
      have h2' : hi < 1 ∨ 24 < hi := by omega
      clear hR h2
      go_enter Tryd.func50, Tryd.ntmps50
      go_wp2_with (first
        | (go_at_call 101; refine (l00In_yes _ _ _ _ ?_ ?_).mono ?_; (· omega); (· omega); rintro e w' ⟨rfl, rfl⟩)
        | (go_at_call 101; refine (l00In_no _ _ _ _ (by omega)).mono ?_; rintro e w' ⟨rfl, rfl⟩))
      go_ret
      exact ⟨rfl, Below.refl _ _⟩
  · obtain rfl : R = false := by rw [hR]; unfold boardOk; simp; intro _ _; omega
    have h1' : wd < 1 ∨ 24 < wd := by omega
    clear hR h1
    go_enter Tryd.func50, Tryd.ntmps50
    go_wp2_with (go_at_call 101; refine (l00In_no _ _ _ _ (by omega)).mono ?_; rintro e w' ⟨rfl, rfl⟩)
    go_ret
    exact ⟨rfl, Below.refl _ _⟩
theorem l01Ok_sl (bb lo hh : Nat) (v : Value) (wd hi : Int) (l : List Pc) (w : World) (hbd : BdAt w bb 0 wd hi v) (hs : SlW lo hh w l v) (h8 : All8 l) (hw8 : i8 wd) (hh8 : i8 hi) (hmax : l.length ≤ 1048576) (R : Bool) (hR : R = boardOk wd hi l) :
    Calls Tryd.prog 50 #[.pointer (some ⟨bb, 0, none⟩)] w fun e w' => e = .returned (.bool R) ∧ Below w.heap.size w w' := by
  cases hs with
  | empty a cap h => subst h; exact l01Ok_nil bb cap a wd hi w hbd hw8 hh8 R hR
  | mk b o cap hc h1 h2 hb hf hl => exact l01Ok_any bb 0 b o _ cap wd hi l w rfl hbd hc hb hl h8 hw8 hh8 hmax R hR
theorem info_pcB : (Tryd.prog.info? 80).map (fun i => (i.zero, i.size, i.bytes)) = some (some (.agg #[.int .i8 0, .int .i8 0, .int .i8 0, .int .i8 0, .int .i8 0]), 5, 5) := by kernel_rfl
theorem two_ {ws : List (List UInt8)} (h : ws.length = 2) : ∃ a0 a1, ws = [a0, a1] := by
  match ws, h with
  | [a0, a1], _ => exact ⟨a0, a1, rfl⟩
theorem nosplit {s : List UInt8} {x0 : List UInt8} {Ls : List (List UInt8)} (hs : spl 10 s = x0 :: Ls) (h : (spl 32 x0).length ≠ 2 ∨ Ls.length < 1 ∨ Ls.getLastD x0 ≠ []) : ∀ a b r, boardOk a b r = true → bdL a b r ≠ s := by
  intro a b r h1 h2
  rw [← h2, bd_split] at hs
  unfold bdLs at hs
  simp only [List.cons_append, List.cons.injEq] at hs
  obtain ⟨e1, e2⟩ := hs
  rcases h with h | h | h
  · rw [← e1, hdL_words] at h; exact h rfl
  · rw [← e2] at h; simp at h
  · rw [← e2] at h; simp at h
theorem bd_lines {l x0 : List UInt8} {Ls : List (List UInt8)} (hs : spl 10 l = x0 :: Ls) {a b : Int} {r : List Pc} (h : bdL a b r = l) : x0 = hdL a b ∧ Ls = r.map pcL ++ [[]] := by
  rw [← h, bd_split] at hs
  unfold bdLs at hs
  simp only [List.cons_append, List.cons.injEq] at hs
  exact ⟨hs.1.symm, hs.2.symm⟩
/-- what stands fast when c pieces are read -/
def RbYes (x0 : List UInt8) (Ls : List (List UInt8)) (sw sh : Int) (A : List Pc) (ok : Bool) : Prop := ok = true → x0 = hdL sw sh ∧ ∀ (j : Nat) (h : j < A.length), 0 ≤ A[j].kind → Ls[j]? = some (pcL A[j])
def RbOf (l : List UInt8) (sw sh : Int) (A : List Pc) (M : Nat) (ok : Bool) : Prop := ∀ a b r, boardOk a b r = true → bdL a b r = l → ok = true ∧ sw = a ∧ sh = b ∧ A = r.take A.length ∧ r.length + 1 = M
theorem rb_yes0 {x0 b0 b1 : List UInt8} (Ls : List (List UInt8)) (hw : spl 32 x0 = [b0, b1]) : RbYes x0 Ls (smX b0) (smX b1) [] (smB b0 && smB b1) := by
  intro h
  simp only [Bool.and_eq_true] at h
  refine ⟨?_, fun j h => by simp at h⟩
  rw [spl_back hw]
  have e0 := (smQ_any b0).yes h.1
  have e1 := (smQ_any b1).yes h.2
  unfold hdL
  rw [← e0, ← e1]
theorem rb_of0 {l x0 b0 b1 : List UInt8} {Ls : List (List UInt8)} {M : Nat} (hs : spl 10 l = x0 :: Ls) (hM : Ls.length = M) (hw : spl 32 x0 = [b0, b1]) : RbOf l (smX b0) (smX b1) [] M (smB b0 && smB b1) := by
  intro a b r h1 h2
  obtain ⟨e1, e2⟩ := bd_lines hs h2
  have s1 := bd_sides h1
  rw [e1, hdL_words] at hw
  simp only [List.cons.injEq, and_true] at hw
  obtain ⟨c0, d0⟩ := (smQ_any b0).of a (by omega) (by omega) hw.1.symm
  obtain ⟨c1, d1⟩ := (smQ_any b1).of b (by omega) (by omega) hw.2.symm
  exact ⟨by rw [c0, c1]; rfl, d0, d1, by simp, by rw [← hM, e2]; simp⟩
theorem rb_yes {x0 : List UInt8} {Ls : List (List UInt8)} {sw sh : Int} {A : List Pc} {ln : List UInt8} {p : Pc} {ok : Bool} (h : RbYes x0 Ls sw sh A true) (hl : Ls[A.length]? = some ln) (hp : MpQ ln p ok) : RbYes x0 Ls sw sh (A ++ [p]) ok := by
  intro ho
  obtain ⟨h1, h2⟩ := h rfl
  refine ⟨h1, fun j hj hk => ?_⟩
  rw [List.length_append] at hj
  simp only [List.length_cons, List.length_nil] at hj
  by_cases e : j < A.length
  · rw [List.getElem_append_left e] at hk ⊢
    exact h2 j e hk
  · obtain rfl : j = A.length := by omega
    rw [List.getElem_append_right (Nat.le_refl _)] at hk ⊢
    simp only [Nat.sub_self, List.getElem_cons_zero] at hk ⊢
    rw [hl, hp.yes ho hk]
theorem rb_of {l x0 : List UInt8} {Ls : List (List UInt8)} {sw sh : Int} {A : List Pc} {M : Nat} {ln : List UInt8} {p : Pc} {ok : Bool} (hs : spl 10 l = x0 :: Ls) (h : RbOf l sw sh A M true) (hl : Ls[A.length]? = some ln) (hM : A.length + 1 < M) (hp : MpQ ln p ok) : RbOf l sw sh (A ++ [p]) M ok := by
  intro a b r h1 h2
  obtain ⟨_, e1, e2, e3, e4⟩ := h a b r h1 h2
  obtain ⟨_, f2⟩ := bd_lines hs h2
  have hc : A.length < r.length := by omega
  rw [f2, List.getElem?_append_left (by rw [List.length_map]; exact hc), List.getElem?_map, List.getElem?_eq_getElem hc] at hl
  obtain ⟨g1, g2⟩ := hp.of r[A.length] (pcIn_of h1 (List.getElem_mem hc)) (Option.some.inj hl).symm
  refine ⟨g1, e1, e2, ?_, e4⟩
  rw [List.length_append, List.length_cons, List.length_nil, List.take_succ_eq_append_getElem hc, ← e3, g2]
theorem rb_text {l x0 : List UInt8} {Ls : List (List UInt8)} {sw sh : Int} {A : List Pc} {M : Nat} (hs : spl 10 l = x0 :: Ls) (hM : Ls.length = M) (hz : Ls.getLastD x0 = []) (h : RbYes x0 Ls sw sh A true) (hA : A.length + 1 = M) (hb : boardOk sw sh A = true) : bdL sw sh A = l := by
  obtain ⟨h1, h2⟩ := h rfl
  have e : Ls = A.map pcL ++ [[]] := by
    apply List.ext_getElem?
    intro j
    by_cases hj : j < A.length
    · have hk := pcIn_of hb (List.getElem_mem hj)
      unfold pcIn at hk
      rw [h2 j hj (by omega), List.getElem?_append_left (by rw [List.length_map]; exact hj), List.getElem?_map, List.getElem?_eq_getElem hj]
      rfl
    · by_cases hj2 : j = A.length
      · subst hj2
        rw [List.getElem?_append_right (by rw [List.length_map]; exact Nat.le_refl _), List.length_map, Nat.sub_self]
        have hne : Ls ≠ [] := by intro h; rw [h] at hM; simp at hM; omega
        have h3 : Ls.getLastD x0 = Ls.getLast hne := by
          cases Ls with
          | nil => exact absurd rfl hne
          | cons y r => rfl
        rw [h3, List.getLast_eq_getElem] at hz
        have e5 : Ls.length - 1 = A.length := by omega
        rw [List.getElem?_eq_getElem (by omega)]
        simp only [e5] at hz
        rw [hz]; rfl
      · rw [List.getElem?_eq_none (by omega), List.getElem?_eq_none (by rw [List.length_append, List.length_map]; simp; omega)]
  rw [bdL_lines]
  have hs2 : spl 10 l = bdLs sw sh A ++ [[]] := by rw [hs, h1, e]; rfl
  exact (lines_back hs2).symm
set_option maxRecDepth 100000 in
set_option maxHeartbeats 16000000 in
theorem specReadBoard_any (l : List UInt8) (w : World) (hl : l.length ≤ 1048576) (Wr Hr : Int) (lr : List Pc) (C : Int) (hA : RbA l Wr Hr lr C) :
    Calls Tryd.prog 13 #[.string (bsT l)] w (BoardPost Wr Hr lr C w) := by
  obtain ⟨j0, hj0, hj1, hj2, hj3⟩ := info_parts info_pcB
  have Hj := Lib.hid hj0
  have Hj1 := Lib.hid hj1
  have Hj2 := Lib.hid hj2
  have Hj3 := Lib.hid hj3
  obtain ⟨W0, hW⟩ : ∃ W0, w.alloc (.cells #[.int .i8 0, .int .i8 0, .slice none 0 0] 33) = W0 := ⟨_, rfl⟩
  have k0 : Below w.heap.size w W0 := by rw [← hW]; exact kAlloc (Below.refl _ _) _
  have bR : W0.heap[w.heap.size]? = some (.cells #[.int .i8 0, .int .i8 0, .slice none 0 0] 33 (0, 0)) := by rw [← hW]; exact heap_alloc_new _ _
  have lR := blk_lt bR
  obtain ⟨X, hX⟩ : ∃ X, w.heap.size = X := ⟨_, rfl⟩
  rw [hX] at bR lR
  have HBR := Lib.hid (fun W2 (h2 : Below W0.heap.size W0 W2) => blk_below bR h2)
  have HKW := Lib.hid (fun W2 (h2 : Below W0.heap.size W0 W2) => kTrans k0 h2)
  have HSP := Lib.hid (l01Split_any l 10 W0 (by omega) 10 rfl)
  have hXw : w.heap.size ≤ X := by omega
  have hX2 : X < W0.heap.size := lR
  have HW := Lib.hid hW
  have HX := Lib.hid hX
  have HA := Lib.hid hA
  obtain ⟨x0, Ls, hLs⟩ := spl_some 10 l
  have hx0 : x0.length ≤ 1048576 := by have := spl_short 10 l x0 (by rw [hLs]; exact List.mem_cons_self ..); omega
  have hNl := spl_length 10 l
  rw [hLs] at HSP hNl
  have HSH := Lib.hid (fun x (hx : x ∈ x0 :: Ls) => (by rw [← hLs] at hx; have := spl_short 10 l x hx; omega : x.length ≤ 1048576))
  have HLS := Lib.hid hLs
  simp only [List.length_cons] at HSP hNl
  clear hW k0 bR hX hA hLs hj0 hj1 hj2 hj3
  go_enter Tryd.func13, Tryd.ntmps13
  go_upto_region 1 with fail
  try rw [HW.out]
  try rw [HX.out]
  clear HW HX
  go_wp2_with fail
  refine HSP.out.mono ?_
  rintro e w1 ⟨g, cap, rfl, hcap, hst, hg, _, hb1⟩
  have K1 := Lib.hid hb1
  have HST := Lib.hid (fun W2 (h2 : Below w1.heap.size w1 W2) => hst.below h2 hg)
  have n1 := hb1.size
  have q0 : w1.cell? ⟨g, 0, none⟩ = some (.string (bsT x0)) := by have h := hst 0 x0 rfl; rwa [Nat.zero_add] at h
  clear HSP hst hb1
  simp only [List.length_cons] at hcap ⊢
  obtain ⟨M, hM⟩ : ∃ M, Ls.length = M := ⟨_, rfl⟩
  obtain ⟨N, hN⟩ : ∃ N, M + 1 = N := ⟨_, rfl⟩
  rw [hM] at hcap hNl ⊢
  rw [hN] at hcap hNl ⊢
  have hN1 : 0 < N := by omega
  have HS2 := Lib.hid (l01Split_any x0 32 w1 (by omega) 32 rfl)
  go_wp2_with fail
  refine HS2.out.mono ?_
  rintro e w2 ⟨g2, cap2, rfl, hcap2, hst2, hg2, _, hb2⟩
  have K2 := Lib.hid (kTrans K1.out hb2)
  have K12 := Lib.hid hb2
  have n2_ := hb2.size
  have hgw := Nat.lt_of_lt_of_le hg hb2.size
  have HST2 := Lib.hid hst2
  have rs_ := HBR.out _ K2.out
  have HB := Lib.hid (HKW.out _ K2.out)
  clear HS2 q0 hb2 hst2
  obtain ⟨n2, hn2⟩ : ∃ n2, (spl 32 x0).length = n2 := ⟨_, rfl⟩
  rw [hn2] at hcap2
  rw [hn2]
  by_cases h2 : n2 = 2
  · subst h2
    by_cases hN2 : N < 2
    · obtain ⟨rfl, rfl, rfl, rfl⟩ := HA.out.no (nosplit HLS.out (.inr (.inl (by omega))))
      have e2 : (N : Int) < 2 := by omega
      clear hn2 HA HST
      go_wp2_with (refine wpList_store_row rfl 33 _ _ rfl X #[.int .i8 0, .int .i8 0, .slice none 0 0] rfl rfl 33 _ rs_ (by kernel_rfl) (by kernel_rfl) (by kernel_rfl) ?_)
      refine bodyPost_ret (v := .tuple #[.agg #[.int .i8 0, .int .i8 0, .slice none 0 0], .int .i64 5]) (results_cell_tmp rfl _ _ X 33 #[.int .i8 0, .int .i8 0, .slice none 0 0] (0, 0) _ _ rfl rfl (setRow_heap _ _ _ _ _ _ rs_) Tryd.underlying33 rfl (by kernel_rfl)) rfl ?_
      exact ⟨_, rfl, .empty _ _ rfl, kRowW HB.out hXw _⟩
    · have hMp : 0 < M := by omega
      obtain ⟨z, hz⟩ : ∃ z, Ls.getLastD x0 = z := ⟨_, rfl⟩
      have hzM : (x0 :: Ls)[M]? = some z := by
        rw [← hz, ← hM]
        cases Ls with
        | nil => simp at hM; omega
        | cons y r => simp [List.getLastD]; rw [List.getLast_eq_getElem]; simp
      have qz : w2.cell? ⟨g, M, none⟩ = some (.string (bsT z)) := by have h := HST.out w2 K12.out M z hzM; rwa [Nat.zero_add] at h
      have e2 : ¬ (N : Int) < 2 := by omega
      have eM : (N : Int) - 1 = (M : Int) := by omega
      have wM : IntKind.i64.wrap ((N : Int) - 1) = (M : Int) := by rw [eM]; exact IntWalk.i64_in _ (by omega)
      obtain ⟨Z, hZ⟩ : ∃ Z, bsT z = Z := ⟨_, rfl⟩
      rw [hZ] at qz
      have hMN : M < N := by omega
      by_cases hz0 : z = []
      · have z1 : Z.toList = [] := by rw [← hZ, toL_bsT, hz0]
        obtain ⟨b0, b1, hw2⟩ := two_ hn2
        have hm0 := rb_yes0 Ls hw2
        have hm1 := rb_of0 HLS.out hM hw2
        rw [hw2] at HST2
        have c0 : w2.cell? ⟨g2, 0, none⟩ = some (.string (bsT b0)) := by have h := HST2.out 0 b0 rfl; rwa [Nat.zero_add] at h
        have c1 : w2.cell? ⟨g2, 1, none⟩ = some (.string (bsT b1)) := by have h := HST2.out 1 b1 rfl; rwa [Nat.zero_add] at h
        obtain ⟨sw, hsw⟩ : ∃ x, smX b0 = x := ⟨_, rfl⟩
        obtain ⟨sh, hsh⟩ : ∃ x, smX b1 = x := ⟨_, rfl⟩
        obtain ⟨o0, ho0⟩ : ∃ x, smB b0 = x := ⟨_, rfl⟩
        obtain ⟨o1, ho1⟩ : ∃ x, smB b1 = x := ⟨_, rfl⟩
        have HS0 := Lib.hid (l01Small_any b0 w2 sw o0 hsw ho0)
        have HS1 := Lib.hid (l01Small_any b1 w2 sh o1 hsh ho1)
        have r0 := (smQ_any b0).lo; have r1 := (smQ_any b0).hi; have r2 := (smQ_any b1).lo; have r3 := (smQ_any b1).hi
        rw [hsw] at r0 r1; rw [hsh] at r2 r3
        rw [hsw, hsh, ho0, ho1] at hm0 hm1
        obtain ⟨OK, hOK⟩ : ∃ x, (o0 && o1) = x := ⟨_, rfl⟩
        rw [hOK] at hm0 hm1
        have HY0 := Lib.hid hm0
        have HO0 := Lib.hid hm1
        have HZ := Lib.hid (show Ls.getLastD x0 = [] by rw [hz]; exact hz0)
        have HMM := Lib.hid hM
        have HOKK := Lib.hid hOK
        have zz : Z.toList.isEmpty = true := by rw [z1]; rfl
        clear hm0 hm1 hsw hsh ho0 ho1 hw2 hn2 HST2 hz hz0 hZ hzM hM hOK
        go_wp2_with fail
        refine HS0.out.mono ?_
        rintro e w' ⟨rfl, h⟩
        obtain rfl : w2 = w' := h
        go_wp2_with fail
        refine HS1.out.mono ?_
        rintro e w' ⟨rfl, h⟩
        obtain rfl : w2 = w' := h
        obtain ⟨w3, hw3⟩ : ∃ z, w2.alloc (.cells #[.int .i8 sw, .int .i8 sh, .slice none 0 0] 33) = z := ⟨_, rfl⟩
        have k3 : Below w2.heap.size w2 w3 := by rw [← hw3]; exact kAlloc (Below.refl _ _) _
        have b3 : w3.heap[w2.heap.size]? = some (.cells #[.int .i8 sw, .int .i8 sh, .slice none ([] : List Pc).length 0] 33 (0, 0)) := by rw [← hw3]; exact heap_alloc_new _ _
        obtain ⟨G, hG⟩ : ∃ G, w2.heap.size = G := ⟨_, rfl⟩
        rw [hG] at b3
        have own0 : Hid (w3.ownsRow (G + 1) 80 5 (.slice none ([] : List Pc).length 0) ([] : List Pc).length (flatL [])) := Lib.hid ⟨by simp [flatL], .inl ⟨rfl, rfl⟩⟩
        have hGW : W0.heap.size ≤ G := by omega
        have hGw1 : w1.heap.size ≤ G := by omega
        have hGX : X < G := by omega
        have HB3 := Lib.hid (kTrans K2.out k3)
        have HG3 := Lib.hid b3
        have HA8 := Lib.hid (show All8 ([] : List Pc) from fun p hp => by simp at hp)
        have HSTW := Lib.hid (fun W2 (h2 : Below w1.heap.size w1 W2) => HST.out W2 h2)
        have HK13 := Lib.hid (kTrans K12.out k3)
        have Hw3 := Lib.hid hw3
        have HGe := Lib.hid hG
        have hg3 := Nat.lt_of_lt_of_le hgw k3.size
        clear c0 c1 qz hw3 hG b3 k3 HS0 HS1 rs_ HB HST
        go_upto_region 8 with fail
        try rw [Hw3.out]
        try rw [HGe.out]
        clear Hw3 HGe
        go_cut [11] (fun s11 wx => s11 = .bool OK ∧ w3 = wx)
        case first =>
          cases o0 with
          | true =>
            obtain rfl : o1 = OK := HOKK.out
            go_wp2_with fail
            go_meet
            exact ⟨rfl, rfl⟩
          | false =>
            obtain rfl : false = OK := HOKK.out
            go_wp2_with fail
            go_meet
            exact ⟨rfl, rfl⟩
        case rest =>
          obtain ⟨rfl, rfl⟩ := hcut
          clear HOKK
          go_wp2
          go_loopw [11, 12, 13, 14] (fun vo vi _ _ wr => ∃ (ok : Bool) (A : List Pc) (va : Option Addr) (vc c : Nat), A.length + 1 ≤ M ∧ Hid (c = A.length + 1) ∧ vo = .bool ok ∧ vi = .int .i64 c ∧ Hid (RbYes x0 Ls sw sh A ok) ∧ Hid (RbOf l sw sh A M ok) ∧ Hid (All8 A) ∧ Hid (wr.heap[G]? = some (.cells #[.int .i8 sw, .int .i8 sh, .slice va A.length vc] 33 (0, 0))) ∧ Hid (wr.ownsRow (G + 1) 80 5 (.slice va A.length vc) A.length (flatL A)) ∧ Hid (Below w1.heap.size w1 wr)) (fun _ vi _ _ _ => N - (intOf vi).toNat)
          case atStart => exact ⟨OK, [], none, 0, 1, by simp; omega, Lib.hid (by simp), rfl, rfl, HY0, HO0, HA8, HG3, own0, HK13⟩
          case round =>
            clear HY0 HO0 HA8 HG3 own0 HK13 HB3
            obtain ⟨ok, A, va, vc, c, hAM, HCc, rfl, rfl, HY, HO, HA8, hG, hown, hB⟩ := hrel
            have hBs := hB.out.size
            by_cases hlt : A.length + 1 < M
            · cases ok with
              | true =>
                obtain ⟨ln, hln⟩ : ∃ ln, Ls[A.length]? = some ln := ⟨_, List.getElem?_eq_getElem (by have := HMM.out; omega)⟩
                have hlm : ln.length ≤ 1048576 := HSH.out ln (List.mem_cons_of_mem _ (List.mem_of_getElem? hln))
                have q : wr.cell? ⟨g, c, none⟩ = some (.string (bsT ln)) := by have h := HSTW.out wr hB.out c ln (by rw [HCc.out]; simpa using hln); rwa [Nat.zero_add] at h
                have hgr := Nat.lt_of_lt_of_le hg hB.out.size
                have hcN : c < N := by have := HCc.out; omega
                have hcc : (c : Int) + 1 < (N : Int) := by have := HCc.out; omega
                have hcz : (c : Int) < (N : Int) := by omega
                have HRP := Lib.hid (l01ReadPiece_any ln wr hlm)
                have Hln := Lib.hid hln
                clear hln hlm
                go_wp2_with fail
                refine HRP.out.mono ?_
                rintro e w4 ⟨p, ok2, rfl, hmp, hb4⟩
                have HYN := Lib.hid (rb_yes HY.out Hln.out hmp)
                have HON := Lib.hid (rb_of HLS.out HO.out Hln.out hlt hmp)
                have HAN := Lib.hid (show All8 (A ++ [p]) from fun x hx => by
                  rcases List.mem_append.1 hx with hx | hx
                  · exact HA8.out x hx
                  · obtain rfl := List.mem_singleton.1 hx
                    exact hmp.in8)
                obtain ⟨px, py, pk, pt, pd⟩ := p
                simp only
                obtain ⟨w5, hw5⟩ : ∃ z, w4.alloc (.cells #[.int .i8 px, .int .i8 py, .int .i8 pk, .int .i8 pt, .int .i8 pd] 80) = z := ⟨_, rfl⟩
                have k5 : Below w4.heap.size w4 w5 := by rw [← hw5]; exact kAlloc (Below.refl _ _) _
                have b5 : w5.heap[w4.heap.size]? = some (.cells #[.int .i8 px, .int .i8 py, .int .i8 pk, .int .i8 pt, .int .i8 pd] 80 (0, 0)) := by rw [← hw5]; exact heap_alloc_new _ _
                obtain ⟨Q, hQ⟩ : ∃ Q, w4.heap.size = Q := ⟨_, rfl⟩
                rw [hQ] at b5
                have K5 := Lib.hid (kTrans hB.out (kTrans hb4 k5))
                have bG5 := blk_below hG.out (kTrans hb4 k5)
                have Own5 := Lib.hid (owns_below hown.out (kTrans hb4 k5))
                have Hblk := Lib.hid (owns_block Own5.out)
                have HG5 := Lib.hid bG5
                have d0 : w5.cell? ⟨Q, 0, none⟩ = some (.int .i8 px) := cell_of_row _ _ 0 _ _ _ b5
                have d1 : w5.cell? ⟨Q, 1, none⟩ = some (.int .i8 py) := cell_of_row _ _ 1 _ _ _ b5
                have d2 : w5.cell? ⟨Q, 2, none⟩ = some (.int .i8 pk) := cell_of_row _ _ 2 _ _ _ b5
                have d3 : w5.cell? ⟨Q, 3, none⟩ = some (.int .i8 pt) := cell_of_row _ _ 3 _ _ _ b5
                have d4 : w5.cell? ⟨Q, 4, none⟩ = some (.int .i8 pd) := cell_of_row _ _ 4 _ _ _ b5
                have lq := blk_lt b5
                have q2 : w5.cell? ⟨G, 2, none⟩ = some (.slice va A.length vc) := cell_of_row _ _ 2 _ _ _ bG5
                have lg5 := blk_lt bG5
                have hz5 := K5.out.size
                have Hw5 := Lib.hid hw5
                have HQe := Lib.hid hQ
                clear q HRP hmp hb4 k5 b5 bG5 hw5 hQ hown hG hB Hln HY HO HA8
                go_upto_region 13 with fail
                try rw [Hw5.out]
                try rw [HQe.out]
                clear Hw5 HQe
                go_wp2_with (at_builtin; refine wpList_append_own _ rfl _ _ 31 rfl (G + 1) 80 j0 _ 5 5 Tryd.underlying31 Hj.out Hj1.out Hj2.out Hj3.out rfl (by decide) (.slice va A.length vc) A.length (flatL A) rfl (owns_below Own5.out (by repeat (first | with_reducible exact Below.refl _ _ | (with_reducible refine kSet ?_ ?hB _; case hB => (simp; try omega)) | with_reducible refine kAlloc ?_ _ | with_reducible refine Below.drew ?_ | with_reducible refine kDrewN ?_ _ | with_reducible refine kTrans ?_ (by assumption)))) ⟨w5.heap.size, 0, none⟩ 1 1 [.int .i8 px, .int .i8 py, .int .i8 pk, .int .i8 pt, .int .i8 pd] rfl rfl (World.news_of_block (cs := #[.int .i8 px, .int .i8 py, .int .i8 pk, .int .i8 pt, .int .i8 pd]) (heap_alloc_new _ _)) (by simp [Value.oneCell']) ?qc4 ?qc5 ?qc6 ?_)
                case qc4 => unfold maxLen; omega
                case qc5 => omega
                case qc6 => simp; omega
                intro v7 w7 hown7 hgr7 hnil
                obtain ⟨vb, vd, rfl⟩ := owns_slice hown7
                have k6 : Below w5.heap.size w5 (w5.alloc (.cells #[.int .i8 px, .int .i8 py, .int .i8 pk, .int .i8 pt, .int .i8 pd] 80)) := kAlloc (Below.refl _ _) _
                have hG7 := (hgr7.block G (by have := k6.size; omega) (fun e => by have := (Hblk.out G e.symm).1; omega)).trans (blk_below HG5.out k6)
                have hB7 : Below w1.heap.size w1 w7 := (kTrans K5.out k6).grown hgr7 (kTrans K5.out k6).size (by intro q hq; have := (Hblk.out q hq).1; omega)
                have q2 := cell_of_row _ _ 2 _ _ _ hG7
                have qf : ∀ j, w7.frozen? ⟨G, j, none⟩ = false := fun j => frozen_of_row _ _ j _ _ hG7
                have lg7 := blk_lt hG7
                have hal : (A ++ [(⟨px, py, pk, pt, pd⟩ : Pc)]).length = A.length + 1 := by rw [List.length_append]; rfl
                have HG8 := Lib.hid (show (w7.setCell ⟨G, 2, none⟩ (.slice vb (A.length + 1) vd)).heap[G]? = some (.cells #[.int .i8 sw, .int .i8 sh, .slice vb (A ++ [(⟨px, py, pk, pt, pd⟩ : Pc)]).length vd] 33 (0, 0)) by rw [hal]; exact blk_set_same' hG7)
                have Own8 := Lib.hid (show (w7.setCell ⟨G, 2, none⟩ (.slice vb (A.length + 1) vd)).ownsRow (G + 1) 80 5 (.slice vb (A ++ [(⟨px, py, pk, pt, pd⟩ : Pc)]).length vd) (A ++ [(⟨px, py, pk, pt, pd⟩ : Pc)]).length (flatL (A ++ [(⟨px, py, pk, pt, pd⟩ : Pc)])) by rw [hal, flatL_one_end]; exact owns_set_far hown7 hG7 (by decide) 2 _)
                have HB8 := Lib.hid (show Below w1.heap.size w1 (w7.setCell ⟨G, 2, none⟩ (.slice vb (A.length + 1) vd)) from kSet hB7 (by show w1.heap.size ≤ G; omega) _)
                have hal2 : (A ++ [(⟨px, py, pk, pt, pd⟩ : Pc)]).length + 1 ≤ M := by rw [hal]; omega
                have hal3 : Hid (c + 1 = (A ++ [(⟨px, py, pk, pt, pd⟩ : Pc)]).length + 1) := Lib.hid (by rw [hal, HCc.out])
                clear hal hown7 hgr7 hnil hG7 hB7 k6 Own5 Hblk HG5 d0 d1 d2 d3 d4
                go_wp2
                exact ⟨⟨ok2, A ++ [⟨px, py, pk, pt, pd⟩], vb, vd, c + 1, hal2, hal3, rfl, by go_num, HYN, HON, HAN, HG8, Own8, HB8⟩, by simp [intOf]; omega⟩
              | false =>
                obtain ⟨rfl, rfl, rfl, rfl⟩ := HA.out.no (fun a b r h1 h2 => by have h3 := (HO.out a b r h1 h2).1; cases h3)
                have hcc : (c : Int) + 1 < (N : Int) := by have := HCc.out; omega
                have rs_ := HBR.out _ (kTrans K1.out hB.out)
                have HB := Lib.hid (HKW.out _ (kTrans K1.out hB.out))
                clear HY HO HA8 hG hown HA
                go_wp2_with (refine wpList_store_row rfl 33 _ _ rfl X #[.int .i8 0, .int .i8 0, .slice none 0 0] rfl rfl 33 _ rs_ (by kernel_rfl) (by kernel_rfl) (by kernel_rfl) ?_)
                refine bodyPost_ret (v := .tuple #[.agg #[.int .i8 0, .int .i8 0, .slice none 0 0], .int .i64 5]) (results_cell_tmp rfl _ _ X 33 #[.int .i8 0, .int .i8 0, .slice none 0 0] (0, 0) _ _ rfl rfl (setRow_heap _ _ _ _ _ _ rs_) Tryd.underlying33 rfl (by kernel_rfl)) rfl ?_
                exact ⟨_, rfl, .empty _ _ rfl, kRowW HB.out hXw _⟩
            · have hM2 : A.length + 1 = M := by omega
              have hcc : ¬ (c : Int) + 1 < (N : Int) := by have := HCc.out; omega
              have hcb : c ≤ 2000000 := by have := HCc.out; omega
              have wcb : IntKind.i64.wrap ((c : Int) + 1) = (c : Int) + 1 := IntWalk.i64_in _ (by omega)
              cases ok with
              | false =>
                obtain ⟨rfl, rfl, rfl, rfl⟩ := HA.out.no (fun a b r h1 h2 => by have h3 := (HO.out a b r h1 h2).1; cases h3)
                have rs_ := HBR.out _ (kTrans K1.out hB.out)
                have HB := Lib.hid (HKW.out _ (kTrans K1.out hB.out))
                clear HY HO HA8 hG hown HA
                go_wp2_with (refine wpList_store_row rfl 33 _ _ rfl X #[.int .i8 0, .int .i8 0, .slice none 0 0] rfl rfl 33 _ rs_ (by kernel_rfl) (by kernel_rfl) (by kernel_rfl) ?_)
                refine bodyPost_ret (v := .tuple #[.agg #[.int .i8 0, .int .i8 0, .slice none 0 0], .int .i64 5]) (results_cell_tmp rfl _ _ X 33 #[.int .i8 0, .int .i8 0, .slice none 0 0] (0, 0) _ _ rfl rfl (setRow_heap _ _ _ _ _ _ rs_) Tryd.underlying33 rfl (by kernel_rfl)) rfl ?_
                exact ⟨_, rfl, .empty _ _ rfl, kRowW HB.out hXw _⟩
              | true =>
                obtain ⟨R, hR⟩ : ∃ R, R = boardOk sw sh A := ⟨_, rfl⟩
                have HLO := Lib.hid (l01Ok_sl G (G + 1) _ (.slice va A.length vc) sw sh A wr (BdAt.of hG.out) (SlW.of_owns hown.out) HA8.out (by unfold i8; omega) (by unfold i8; omega) (by omega) R hR)
                have HRR := Lib.hid hR
                have lG := blk_lt hG.out
                clear hR
                go_wp2_with fail
                refine HLO.out.mono ?_
                rintro e w4 ⟨rfl, hb4⟩
                have KK := Lib.hid (kTrans K1.out (kTrans hB.out hb4))
                have rs_ := HBR.out _ KK.out
                have HB := Lib.hid (HKW.out _ KK.out)
                have bG4 := blk_below hG.out hb4
                have Own4 := Lib.hid (owns_below hown.out hb4)
                clear HLO hb4 hG hown
                cases R with
                | false =>
                  obtain ⟨rfl, rfl, rfl, rfl⟩ := HA.out.no (fun a b r h1 h2 => by
                    obtain ⟨_, e1, e2, e3, e4⟩ := HO.out a b r h1 h2
                    have e5 : A = r := by rw [e3]; exact List.take_of_length_le (by omega)
                    rw [← e1, ← e2, ← e5, ← HRR.out] at h1
                    cases h1)
                  clear HY HO HA8 HA HRR bG4 Own4
                  go_wp2_with (refine wpList_store_row rfl 33 _ _ rfl X #[.int .i8 0, .int .i8 0, .slice none 0 0] rfl rfl 33 _ rs_ (by kernel_rfl) (by kernel_rfl) (by kernel_rfl) ?_)
                  refine bodyPost_ret (v := .tuple #[.agg #[.int .i8 0, .int .i8 0, .slice none 0 0], .int .i64 5]) (results_cell_tmp rfl _ _ X 33 #[.int .i8 0, .int .i8 0, .slice none 0 0] (0, 0) _ _ rfl rfl (setRow_heap _ _ _ _ _ _ rs_) Tryd.underlying33 rfl (by kernel_rfl)) rfl ?_
                  exact ⟨_, rfl, .empty _ _ rfl, kRowW HB.out hXw _⟩
                | true =>
                  obtain ⟨rfl, rfl, rfl, rfl⟩ := HA.out.yes HRR.out.symm (rb_text HLS.out HMM.out HZ.out HY.out hM2 HRR.out.symm)
                  have d0 : w4.cell? ⟨G, 0, none⟩ = some (.int .i8 Wr) := cell_of_row _ _ 0 _ _ _ bG4
                  have d1 : w4.cell? ⟨G, 1, none⟩ = some (.int .i8 Hr) := cell_of_row _ _ 1 _ _ _ bG4
                  have d2 : w4.cell? ⟨G, 2, none⟩ = some (.slice va lr.length vc) := cell_of_row _ _ 2 _ _ _ bG4
                  have lG4 := blk_lt bG4
                  clear HY HO HA8 HA HRR bG4
                  go_wp2_with (refine wpList_store_row rfl 33 _ _ rfl X #[.int .i8 Wr, .int .i8 Hr, .slice va lr.length vc] rfl rfl 33 _ rs_ (by kernel_rfl) (by kernel_rfl) (by kernel_rfl) ?_)
                  refine bodyPost_ret (v := .tuple #[.agg #[.int .i8 Wr, .int .i8 Hr, .slice va lr.length vc], .int .i64 0]) (results_cell_tmp rfl _ _ X 33 #[.int .i8 Wr, .int .i8 Hr, .slice va lr.length vc] (0, 0) _ _ rfl rfl (setRow_heap _ _ _ _ _ _ rs_) Tryd.underlying33 rfl (by kernel_rfl)) rfl ?_
                  refine ⟨_, rfl, ?_, kRowW HB.out hXw _⟩
                  have hs := SlW.of_owns (l := lr) (n := lr.length) Own4.out
                  exact (hs.row (by omega)).mono (by omega) (by simp [World.setRow])
      · obtain ⟨rfl, rfl, rfl, rfl⟩ := HA.out.no (nosplit HLS.out (.inr (.inr (by rw [hz]; exact hz0))))
        have z1 : ¬ Z.toList = [] := by rw [← hZ, toL_bsT]; exact hz0
        have z2 : Z.toList.isEmpty = false := by rw [← hZ, toL_bsT]; exact List.isEmpty_eq_false_iff.2 hz0
        clear hn2 HA HST hz0 hZ hzM hz
        go_wp2_with (refine wpList_store_row rfl 33 _ _ rfl X #[.int .i8 0, .int .i8 0, .slice none 0 0] rfl rfl 33 _ rs_ (by kernel_rfl) (by kernel_rfl) (by kernel_rfl) ?_)
        refine bodyPost_ret (v := .tuple #[.agg #[.int .i8 0, .int .i8 0, .slice none 0 0], .int .i64 5]) (results_cell_tmp rfl _ _ X 33 #[.int .i8 0, .int .i8 0, .slice none 0 0] (0, 0) _ _ rfl rfl (setRow_heap _ _ _ _ _ _ rs_) Tryd.underlying33 rfl (by kernel_rfl)) rfl ?_
        exact ⟨_, rfl, .empty _ _ rfl, kRowW HB.out hXw _⟩
  · obtain ⟨rfl, rfl, rfl, rfl⟩ := HA.out.no (nosplit HLS.out (.inl (by rw [hn2]; exact h2)))
    have e2 : ¬ ((n2 : Nat) : Int) = 2 := by omega
    clear hn2 HA HST
    go_wp2_with (refine wpList_store_row rfl 33 _ _ rfl X #[.int .i8 0, .int .i8 0, .slice none 0 0] rfl rfl 33 _ rs_ (by kernel_rfl) (by kernel_rfl) (by kernel_rfl) ?_)
    refine bodyPost_ret (v := .tuple #[.agg #[.int .i8 0, .int .i8 0, .slice none 0 0], .int .i64 5]) (results_cell_tmp rfl _ _ X 33 #[.int .i8 0, .int .i8 0, .slice none 0 0] (0, 0) _ _ rfl rfl (setRow_heap _ _ _ _ _ _ rs_) Tryd.underlying33 rfl (by kernel_rfl)) rfl ?_
    exact ⟨_, rfl, .empty _ _ rfl, kRowW HB.out hXw _⟩
end Go.Proofs.YtobhppkcgioheaaDoor
