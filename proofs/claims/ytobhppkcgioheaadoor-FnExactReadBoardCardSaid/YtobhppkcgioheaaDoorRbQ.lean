/- ReadBoard: parseBoard. -/
import Derived.Test.YtobhppkcgioheaaDoorRbP
import Derived.Test.YtobhppkcgioheaaDoorG4
import Derived.Deep.DeepCutAuto
namespace Go.Proofs.YtobhppkcgioheaaDoor
open Go.ChangeShapes Go.WideShapes Go.ChangeAt Go.RowKit Go.Joins Go.Deep
set_option linter.unusedVariables false
set_option linter.unusedSimpArgs false

set_option maxHeartbeats 1000000 in
theorem parseSmalls_len (b o c n count : Nat) (w : World) (h : n ≠ count) (hn : n ≤ 2000000) (hc : count ≤ 2000000) :
    Calls Tryd.prog 95 #[.slice (some ⟨b, o, none⟩) n c, .int .i64 count] w fun e w' => e = .returned (.tuple #[.slice none 0 0, .bool false]) ∧ w = w' := by
  have h1 : ¬ ((n : Nat) : Int) = (count : Int) := by omega
  go_enter Tryd.func95, Tryd.ntmps95
  go_wp2
  go_ret2
  exact ⟨rfl, rfl⟩
theorem info_pcQ : (Tryd.prog.info? 80).map (fun i => (i.zero, i.size, i.bytes)) = some (some (.agg #[.int .i8 0, .int .i8 0, .int .i8 0, .int .i8 0, .int .i8 0]), 5, 5) := by kernel_rfl
/-- what parseBoard leaves -/
def PbP (l : List UInt8) (w : World) (e : Ending) (w' : World) : Prop :=
  ∃ sw sh A v ok, e = .returned (.tuple #[.agg #[.int .i8 sw, .int .i8 sh, v], .bool ok]) ∧ i8 sw ∧ i8 sh ∧ All8 A ∧ A.length ≤ 1048576 ∧ SlW w.heap.size w'.heap.size w' A v ∧ (ok = true → l ≠ []) ∧ (∀ a b r, boardOk a b r = true → bdL a b r = l → ok = true ∧ sw = a ∧ sh = b ∧ A = r) ∧ Below w.heap.size w w'
theorem pb_fail {l : List UInt8} {w w' : World} {e : Ending} (h1 : e = .returned (.tuple #[.agg #[.int .i8 0, .int .i8 0, .slice none 0 0], .bool false])) (h2 : ∀ a b r, boardOk a b r = true → bdL a b r ≠ l) (h3 : Below w.heap.size w w') : PbP l w e w' :=
  ⟨0, 0, [], _, false, h1, by unfold i8; omega, by unfold i8; omega, fun p h => by simp at h, by simp, .empty _ _ rfl, (fun h => by cases h), fun a b r h4 h5 => absurd h5 (h2 a b r h4), h3⟩
theorem pb_lines {l x0 : List UInt8} {Ls : List (List UInt8)} (hs : spl 10 (Lib.trimSuffix l [10]) = x0 :: Ls) {a b : Int} {r : List Pc} (h : bdL a b r = l) : x0 = hdL a b ∧ Ls = r.map pcL := by
  rw [← h, bd_trim] at hs
  unfold bdLs at hs
  simp only [List.cons.injEq] at hs
  exact ⟨hs.1.symm, hs.2.symm⟩
/-- what stands fast when some pieces are read -/
def PbOf (l : List UInt8) (sw sh : Int) (A : List Pc) (M : Nat) : Prop := ∀ a b r, boardOk a b r = true → bdL a b r = l → sw = a ∧ sh = b ∧ A = r.take A.length ∧ r.length = M
theorem pb_of {l x0 : List UInt8} {Ls : List (List UInt8)} {sw sh : Int} {A : List Pc} {M : Nat} {ln : List UInt8} {p : Pc} (hs : spl 10 (Lib.trimSuffix l [10]) = x0 :: Ls) (h : PbOf l sw sh A M) (hl : Ls[A.length]? = some ln) (hM : A.length < M) (hp : ∀ q, pcIn q → ln = pcL q → p = q) : PbOf l sw sh (A ++ [p]) M := by
  intro a b r h1 h2
  obtain ⟨e1, e2, e3, e4⟩ := h a b r h1 h2
  obtain ⟨_, f2⟩ := pb_lines hs h2
  have hc : A.length < r.length := by omega
  rw [f2, List.getElem?_map, List.getElem?_eq_getElem hc] at hl
  have g2 := hp r[A.length] (pcIn_of h1 (List.getElem_mem hc)) (Option.some.inj hl).symm
  refine ⟨e1, e2, ?_, e4⟩
  rw [List.length_append, List.length_cons, List.length_nil, List.take_succ_eq_append_getElem hc, ← e3, g2]
theorem pb_no {l x0 : List UInt8} {Ls : List (List UInt8)} {sw sh : Int} {A : List Pc} {M : Nat} {ln : List UInt8} (hs : spl 10 (Lib.trimSuffix l [10]) = x0 :: Ls) (h : PbOf l sw sh A M) (hl : Ls[A.length]? = some ln) (hM : A.length < M) (hp : ∀ q, pcIn q → ln ≠ pcL q) : ∀ a b r, boardOk a b r = true → bdL a b r ≠ l := by
  intro a b r h1 h2
  obtain ⟨e1, e2, e3, e4⟩ := h a b r h1 h2
  obtain ⟨_, f2⟩ := pb_lines hs h2
  have hc : A.length < r.length := by omega
  rw [f2, List.getElem?_map, List.getElem?_eq_getElem hc] at hl
  exact hp r[A.length] (pcIn_of h1 (List.getElem_mem hc)) (Option.some.inj hl).symm
theorem pb_two {l x0 : List UInt8} {Ls : List (List UInt8)} (hs : spl 10 (Lib.trimSuffix l [10]) = x0 :: Ls) (h : (spl 32 x0).length ≠ 2 ∨ 200 < Ls.length) : ∀ a b r, boardOk a b r = true → bdL a b r ≠ l := by
  intro a b r h1 h2
  obtain ⟨f1, f2⟩ := pb_lines hs h2
  have s1 := bd_sides h1
  rcases h with h | h
  · rw [f1, hdL_words] at h; exact h rfl
  · rw [f2, List.length_map] at h; omega
theorem pb_hd {l x0 : List UInt8} {Ls : List (List UInt8)} (hs : spl 10 (Lib.trimSuffix l [10]) = x0 :: Ls) {a b : Int} {r : List Pc} (h1 : boardOk a b r = true) (h2 : bdL a b r = l) : Smalls [a, b] (spl 32 x0) 2 := by
  obtain ⟨f1, _⟩ := pb_lines hs h2
  have s1 := bd_sides h1
  refine ⟨by rw [f1, hdL_words]; rfl, rfl, fun x hx => by simp at hx; omega⟩
set_option maxRecDepth 100000 in
set_option maxHeartbeats 16000000 in
theorem parseBoard_any (l : List UInt8) (w : World) (hl : l.length ≤ 1048576) (hE : ErrAt w) (hst : KindAt w) : Calls Tryd.prog 51 #[.string (bsT l)] w (PbP l w) := by
  obtain ⟨j0, hj0, hj1, hj2, hj3⟩ := info_parts info_pcQ
  have Hj := Lib.hid hj0
  have Hj1 := Lib.hid hj1
  have Hj2 := Lib.hid hj2
  have Hj3 := Lib.hid hj3
  obtain ⟨W0, hW⟩ : ∃ W0, w.alloc (.cells #[.int .i8 0, .int .i8 0, .slice none 0 0] 33) = W0 := ⟨_, rfl⟩
  have k0 : Below w.heap.size w W0 := by rw [← hW]; exact kAlloc (Below.refl _ _) _
  have bR : W0.heap[w.heap.size]? = some (.cells #[.int .i8 0, .int .i8 0, .slice none 0 0] 33 (0, 0)) := by rw [← hW]; exact heap_alloc_new _ _
  have lR := blk_lt bR
  obtain ⟨X, hX⟩ : ∃ X, w.heap.size = X := ⟨_, rfl⟩
  rw [hX] at bR lR
  have HBR := Lib.hid (fun W2 (h2 : Below W0.heap.size W0 W2) => blk_below bR h2)
  have HKW := Lib.hid (fun W2 (h2 : Below W0.heap.size W0 W2) => kTrans k0 h2)
  have HER := Lib.hid (fun W2 (h2 : Below W0.heap.size W0 W2) => hE.below (kTrans k0 h2))
  have HKD := Lib.hid (fun W2 (h2 : Below W0.heap.size W0 W2) => hst.below (kTrans k0 h2))
  have hXw : w.heap.size ≤ X := by omega
  obtain ⟨T, hT⟩ : ∃ T, Lib.trimSuffix l [10] = T := ⟨_, rfl⟩
  have hTl : T.length ≤ l.length := by rw [← hT]; unfold Lib.trimSuffix; split <;> simp
  have HTS := Lib.hid (fun W => (by have h := strings_TrimSuffix (bsT l) (bsT [10]) W (by rw [bsT_size]; omega); rw [bsT_list, bsT_list, hT] at h; exact h : Calls Tryd.prog 104 #[.string (bsT l), .string (bsT [10])] W fun e w' => e = .returned (.string (bsT T)) ∧ w' = W))
  obtain ⟨x0, Ls, hLs⟩ := spl_some 10 T
  have hx0 : x0.length ≤ 1048576 := by have := spl_short 10 T x0 (by rw [hLs]; exact List.mem_cons_self ..); omega
  have hNl := spl_length 10 T
  obtain ⟨M, hM⟩ : ∃ M, Ls.length = M := ⟨_, rfl⟩
  have HSP := Lib.hid (split_any T 10 W0 (by omega) (M + 1) (by rw [hLs, List.length_cons, hM]))
  rw [hLs] at HSP hNl
  have HSH := Lib.hid (fun x (hx : x ∈ x0 :: Ls) => (by rw [← hLs] at hx; have := spl_short 10 T x hx; omega : x.length ≤ 1048576))
  have HLS := Lib.hid (show spl 10 (Lib.trimSuffix l [10]) = x0 :: Ls by rw [hT]; exact hLs)
  rw [List.length_cons, hM] at hNl
  have hM9 : M ≤ 1048576 := by omega
  have HMM := Lib.hid hM
  have HLN := Lib.hid (show l = [] → (spl 32 x0).length ≠ 2 from fun h => by
    have h2 : T = [] := by rw [← hT, h]; rfl
    rw [h2] at hLs
    obtain ⟨rfl, _⟩ : x0 = [] ∧ Ls = [] := by simpa [spl] using hLs.symm
    simp [spl])
  obtain ⟨S, hS⟩ : ∃ S, bsT l = S := ⟨_, rfl⟩
  rw [hS] at HTS ⊢
  have e10 : (⟨#[10]⟩ : ByteArray) = bsT [10] := rfl
  have e32 : (⟨#[32]⟩ : ByteArray) = bsT [32] := rfl
  have HW := Lib.hid hW
  have HX := Lib.hid hX
  clear hW k0 bR hX hE hst hl hT hTl hLs hNl hM hS hj0 hj1 hj2 hj3
  go_enter Tryd.func51, Tryd.ntmps51
  go_upto_region 1 with fail
  try rw [HW.out]
  try rw [HX.out]
  clear HW HX
  go_wp2_with fail
  refine (HTS.out _).mono ?_
  rintro e w' ⟨rfl, h⟩
  obtain rfl : W0 = w' := h.symm
  clear HTS
  go_wp2_with fail
  refine HSP.out.mono ?_
  rintro e w1 ⟨rfl, hrow, hb1⟩
  have KA1 := Lib.hid hb1
  obtain ⟨g, hg⟩ : ∃ g, W0.heap.size = g := ⟨_, rfl⟩
  rw [hg] at hrow ⊢
  have lg := blk_lt hrow
  have hst := StAt.of hrow
  have HST := Lib.hid (fun W2 (h2 : Below w1.heap.size w1 W2) => hst.below h2 lg)
  have n1 := hb1.size
  have q0 : w1.cell? ⟨g, 0, none⟩ = some (.string (bsT x0)) := by have h := hst 0 x0 rfl; rwa [Nat.zero_add] at h
  obtain ⟨n2, hn2⟩ : ∃ n2, (spl 32 x0).length = n2 := ⟨_, rfl⟩
  have hn2l : n2 ≤ 1048577 := by have := spl_length 32 x0; omega
  have HSP2 := Lib.hid (split_any x0 32 w1 (by omega) n2 hn2)
  have HSH2 := Lib.hid (fun x (hx : x ∈ spl 32 x0) => (by have := spl_short 32 x0 x hx; omega : x.length ≤ 2000000))
  have Hn2 := Lib.hid hn2
  clear HSP hb1 hrow hst hg hn2
  go_wp2_with fail
  refine HSP2.out.mono ?_
  rintro e w2 ⟨rfl, hrow2, hb2⟩
  have K2 := Lib.hid (kTrans KA1.out hb2)
  have K12 := Lib.hid hb2
  obtain ⟨g2, hg2⟩ : ∃ g, w1.heap.size = g := ⟨_, rfl⟩
  rw [hg2] at hrow2 ⊢
  have lg2 := blk_lt hrow2
  have hgw := Nat.lt_of_lt_of_le lg hb2.size
  have hst2 := StAt.of hrow2
  have n2_ := hb2.size
  clear HSP2 hb2 hrow2 hg2 q0
  by_cases h2 : n2 = 2
  · subst h2
    have HS2 := Lib.hid (parseSmalls2_any g2 0 2 2 2 (spl 32 x0) w2 Hn2.out hst2 lg2 (by omega) HSH2.out (by omega) (HER.out w2 K2.out))
    clear hst2
    go_wp2_with fail
    refine HS2.out.mono ?_
    rintro e w3 ⟨v3, ok3, rfl, hr3, hb3⟩
    have K3 := Lib.hid (kTrans K2.out hb3)
    have K13 := Lib.hid (kTrans K12.out hb3)
    have HR3 := Lib.hid hr3
    have lg3 := Nat.lt_of_lt_of_le hgw hb3.size
    have rs_ := HBR.out _ K3.out
    have HB := Lib.hid (HKW.out _ K3.out)
    clear HS2 hr3 hb3
    cases ok3 with
    | false =>
      have HF := Lib.hid (show ∀ a b r, boardOk a b r = true → bdL a b r ≠ l from fun a b r h1 h2 => by
        rcases HR3.out with ⟨h, _⟩ | ⟨_, h⟩
        · cases h
        · exact h _ (pb_hd HLS.out h1 h2))
      clear HR3 HSH2 HSH HST
      go_wp2_with (refine wpList_store_row rfl 33 _ _ rfl X #[.int .i8 0, .int .i8 0, .slice none 0 0] rfl rfl 33 _ rs_ (by kernel_rfl) (by kernel_rfl) (by kernel_rfl) ?_)
      refine bodyPost_ret (v := .tuple #[.agg #[.int .i8 0, .int .i8 0, .slice none 0 0], .bool false]) (results_cell_tmp rfl _ _ X 33 #[.int .i8 0, .int .i8 0, .slice none 0 0] (0, 0) _ _ rfl rfl (setRow_heap _ _ _ _ _ _ rs_) Tryd.underlying33 rfl (by kernel_rfl)) rfl ?_
      exact pb_fail rfl HF.out (kRowW HB.out hXw _)
    | true =>
      obtain ⟨g3, F3, rfl, hm3, _, hf3, hs3⟩ : ∃ g F, v3 = .slice (some ⟨g, 0, none⟩) 2 2 ∧ MRow w3 g 2 F ∧ w2.heap.size ≤ g ∧ (∀ i, i < 2 → -128 ≤ F i ∧ F i ≤ 127) ∧ (∀ vs, Smalls vs (spl 32 x0) 2 → ∀ i, i < 2 → vs.getD i 0 = F i) := by
        rcases HR3.out with ⟨_, h⟩ | ⟨h, _⟩
        · exact h
        · cases h
      by_cases hN : 200 < M
      · have HF := Lib.hid (pb_two HLS.out (.inr (by rw [HMM.out]; exact hN)))
        have hN2 : decide ((201 : Int) < (M : Int) + 1) = true := by simp; omega
        clear HR3 HSH2 HSH HST hm3 hf3 hs3
        go_wp2_with (refine wpList_store_row rfl 33 _ _ rfl X #[.int .i8 0, .int .i8 0, .slice none 0 0] rfl rfl 33 _ rs_ (by kernel_rfl) (by kernel_rfl) (by kernel_rfl) ?_)
        refine bodyPost_ret (v := .tuple #[.agg #[.int .i8 0, .int .i8 0, .slice none 0 0], .bool false]) (results_cell_tmp rfl _ _ X 33 #[.int .i8 0, .int .i8 0, .slice none 0 0] (0, 0) _ _ rfl rfl (setRow_heap _ _ _ _ _ _ rs_) Tryd.underlying33 rfl (by kernel_rfl)) rfl ?_
        exact pb_fail rfl HF.out (kRowW HB.out hXw _)
      · have hN2 : decide ((201 : Int) < (M : Int) + 1) = false := by simp; omega
        have HOF0 := Lib.hid (show PbOf l (F3 0) (F3 1) [] M from fun a b r h1 h2 => by
          have s1 := pb_hd HLS.out h1 h2
          have f0 : a = F3 0 := hs3 _ s1 0 (by omega)
          have f1 : b = F3 1 := hs3 _ s1 1 (by omega)
          obtain ⟨_, f2⟩ := pb_lines HLS.out h2
          exact ⟨f0.symm, f1.symm, by simp, by rw [← HMM.out, f2, List.length_map]⟩)
        have hi0 := hf3 0 (by omega)
        have hi1 := hf3 1 (by omega)
        have c0 := hm3.at_ 0 (by omega)
        have c1 := hm3.at_ 1 (by omega)
        have l3_ := hm3.lt
        obtain ⟨sw, hsw⟩ : ∃ x, F3 0 = x := ⟨_, rfl⟩
        obtain ⟨sh, hsh⟩ : ∃ x, F3 1 = x := ⟨_, rfl⟩
        rw [hsw] at c0 HOF0 hi0
        rw [hsh] at c1 HOF0 hi1
        have hM200 : M ≤ 200 := by omega
        clear HR3 hm3 hf3 hs3 hsw hsh rs_ HB HSH2 hN
        go_upto_region 5 with fail
        refine regionW_of_HR (fun W' => Below w3.heap.size w3 W') (by kernel_rfl) (Below.drew (Below.refl _ _)) (fun hHeld => ?_)
        refine wpAnyH_take (i := 0) (v := .slice (some ⟨g3, 0, none⟩) 2 2) rfl (by kernel_rfl) (by kernel_rfl) (by kernel_rfl) (fun _ _ _ h => absurd h.1 (by simp)) (Or.inl ⟨by rfl, fun w7 hSw => ?_⟩) (by assumption) ?_
        · clear hSw
          go_simp
        simp only [Act.put, List.getElem_toArray, List.getElem_cons_zero, List.getElem_cons_succ, List.setIfInBounds_toArray, List.set_cons_zero, List.set_cons_succ]
        refine wpAnyH_take (i := 1) (v := .pointer (some ⟨g3, 0, none⟩)) rfl (by kernel_rfl) (by kernel_rfl) (by kernel_rfl) (fun _ _ _ h => absurd h.1 (by simp)) (Or.inl ⟨by rfl, fun w7 hSw => ?_⟩) (by assumption) ?_
        · clear hSw
          go_simp
        simp only [Act.put, List.getElem_toArray, List.getElem_cons_zero, List.getElem_cons_succ, List.setIfInBounds_toArray, List.set_cons_zero, List.set_cons_succ]
        refine wpAnyH_take (i := 2) (v := .int .i8 sw) rfl (by kernel_rfl) (by kernel_rfl) (by kernel_rfl) (fun _ _ _ h => absurd h.1 (by simp)) (Or.inl ⟨by rfl, fun w7 hSw => ?_⟩) (by assumption) ?_
        · have q7 := (hSw.cell (p := ⟨g3, 0, none⟩) l3_).trans c0
          have lq7 := Nat.lt_of_lt_of_le l3_ hSw.size
          clear hSw
          go_simp
        simp only [Act.put, List.getElem_toArray, List.getElem_cons_zero, List.getElem_cons_succ, List.setIfInBounds_toArray, List.set_cons_zero, List.set_cons_succ]
        refine wpAnyH_take (i := 3) (v := .slice (some ⟨g3, 0, none⟩) 2 2) rfl (by kernel_rfl) (by kernel_rfl) (by kernel_rfl) (fun _ _ _ h => absurd h.1 (by simp)) (Or.inl ⟨by rfl, fun w7 hSw => ?_⟩) (by assumption) ?_
        · clear hSw
          go_simp
        simp only [Act.put, List.getElem_toArray, List.getElem_cons_zero, List.getElem_cons_succ, List.setIfInBounds_toArray, List.set_cons_zero, List.set_cons_succ]
        refine wpAnyH_take (i := 4) (v := .pointer (some ⟨g3, 1, none⟩)) rfl (by kernel_rfl) (by kernel_rfl) (by kernel_rfl) (fun _ _ _ h => absurd h.1 (by simp)) (Or.inl ⟨by rfl, fun w7 hSw => ?_⟩) (by assumption) ?_
        · clear hSw
          go_simp
        simp only [Act.put, List.getElem_toArray, List.getElem_cons_zero, List.getElem_cons_succ, List.setIfInBounds_toArray, List.set_cons_zero, List.set_cons_succ]
        refine wpAnyH_take (i := 5) (v := .int .i8 sh) rfl (by kernel_rfl) (by kernel_rfl) (by kernel_rfl) (fun _ _ _ h => absurd h.1 (by simp)) (Or.inl ⟨by rfl, fun w7 hSw => ?_⟩) (by assumption) ?_
        · have q7 := (hSw.cell (p := ⟨g3, 1, none⟩) l3_).trans c1
          have lq7 := Nat.lt_of_lt_of_le l3_ hSw.size
          clear hSw
          go_simp
        simp only [Act.put, List.getElem_toArray, List.getElem_cons_zero, List.getElem_cons_succ, List.setIfInBounds_toArray, List.set_cons_zero, List.set_cons_succ]
        refine wpAnyH_take (i := 6) (v := .agg #[.int .i8 sw, .int .i8 sh, .slice none 0 0]) rfl (by kernel_rfl) (by kernel_rfl) (by kernel_rfl) (fun _ _ _ h => absurd h.1 (by simp)) (Or.inl ⟨by rfl, fun w7 hSw => ?_⟩) (by assumption) ?_
        · clear hSw
          go_simp
        simp only [Act.put, List.getElem_toArray, List.getElem_cons_zero, List.getElem_cons_succ, List.setIfInBounds_toArray, List.set_cons_zero, List.set_cons_succ]
        have K0 := Lib.hid hHeld
        clear hHeld
        obtain ⟨xt0, hxt0⟩ : ∃ z, w3.drew = z := ⟨_, rfl⟩
        rw [hxt0] at K0 ⊢
        clear hxt0
        refine wpAnyH_ready (rs := [7]) (by kernel_rfl) (by simp) ?_
        refine AllReadyH.cons rfl (fun K hK => ?_) AllReadyH.nil
        · skip
          go_simp
          obtain ⟨xt1, et1⟩ : ∃ z, xt0.alloc (.cells #[.int .i8 0, .int .i8 0, .slice none 0 0] 33) = z := ⟨_, rfl⟩
          have kt1 : Below xt0.heap.size xt0 xt1 := by rw [← et1]; exact kAlloc (Below.refl _ _) _
          have bt1 : xt1.heap[xt0.heap.size]? = some (.cells #[.int .i8 0, .int .i8 0, .slice none 0 0] 33 (0, 0)) := by rw [← et1]; exact heap_alloc_new _ _
          try rw [et1]
          obtain ⟨gt1, ft1⟩ : ∃ z, xt0.heap.size = z := ⟨_, rfl⟩
          have K1 := Lib.hid (kTrans K0.out kt1)
          have lt1 : w3.heap.size ≤ gt1 := by have := K0.out.size; omega
          rw [ft1] at bt1 ⊢
          have bb_1 := Lib.hid bt1
          refine hK.out _ _ K1.out (fun _ => ?_)
          clear hK K kt1 bt1 et1 ft1
          refine wpAnyH_ready (rs := [8]) (by kernel_rfl) (by simp) ?_
          refine AllReadyH.cons rfl (fun K hK => ?_) AllReadyH.nil
          · skip
            have q0 : xt1.cell? ⟨gt1, 0, none⟩ = some (.int .i8 0) := cell_of_row _ _ 0 _ _ _ bb_1.out
            have y0 : xt1.frozen? ⟨gt1, 0, none⟩ = false := frozen_of_row _ _ 0 _ _ bb_1.out
            have q1 : xt1.cell? ⟨gt1, 1, none⟩ = some (.int .i8 0) := cell_of_row _ _ 1 _ _ _ bb_1.out
            have y1 : xt1.frozen? ⟨gt1, 1, none⟩ = false := frozen_of_row _ _ 1 _ _ bb_1.out
            have q2 : xt1.cell? ⟨gt1, 2, none⟩ = some (.slice none 0 0) := cell_of_row _ _ 2 _ _ _ bb_1.out
            have y2 : xt1.frozen? ⟨gt1, 2, none⟩ = false := frozen_of_row _ _ 2 _ _ bb_1.out
            have lz := blk_lt bb_1.out
            go_simp
            have K2 : Hid (Below w3.heap.size w3 (((xt1.setCell ⟨gt1, 0, none⟩ (.int .i8 sw)).setCell ⟨gt1, 1, none⟩ (.int .i8 sh)).setCell ⟨gt1, 2, none⟩ (.slice none 0 0))) := Lib.hid (kSet (kSet (kSet K1.out lt1 _) lt1 _) lt1 _)
            have bb_2 : Hid ((((xt1.setCell ⟨gt1, 0, none⟩ (.int .i8 sw)).setCell ⟨gt1, 1, none⟩ (.int .i8 sh)).setCell ⟨gt1, 2, none⟩ (.slice none 0 0)).heap[gt1]? = some (.cells #[.int .i8 sw, .int .i8 sh, .slice none 0 0] 33 (0, 0))) := Lib.hid (blk_set_same' (blk_set_same' (blk_set_same' bb_1.out)))
            refine hK.out _ _ K2.out (fun _ => ?_)
            clear hK K lz q0 y0 q1 y1 q2 y2
            generalize (((xt1.setCell ⟨gt1, 0, none⟩ (.int .i8 sw)).setCell ⟨gt1, 1, none⟩ (.int .i8 sh)).setCell ⟨gt1, 2, none⟩ (.slice none 0 0)) = xt2 at K2 bb_2 ⊢
            refine wpAnyH_done (by kernel_rfl) ?_ _
            refine ⟨rfl, ?_⟩
            have KX := Lib.hid (kTrans K3.out K2.out)
            have K1X := Lib.hid (kTrans K13.out K2.out)
            have hz3_ := K3.out.size
            have hz13_ := K13.out.size
            obtain ⟨G, hG⟩ : ∃ G, gt1 = G := ⟨_, rfl⟩
            have hGW : W0.heap.size ≤ G := by omega
            have hGw1 : w1.heap.size ≤ G := by omega
            have hGX : X < G := by omega
            have HG0 := Lib.hid (show xt2.heap[G]? = some (.cells #[.int .i8 sw, .int .i8 sh, .slice none ([] : List Pc).length 0] 33 (0, 0)) by rw [← hG]; exact bb_2.out)
            have own0 : Hid (xt2.ownsRow (G + 1) 80 5 (.slice none ([] : List Pc).length 0) ([] : List Pc).length (flatL [])) := Lib.hid ⟨by simp [flatL], .inl ⟨rfl, rfl⟩⟩
            have HA80 := Lib.hid (show All8 ([] : List Pc) from fun p hp => by simp at hp)
            have hgX := Nat.lt_of_lt_of_le lg3 K2.out.size
            rw [hG]
            clear hG c0 c1 l3_
            by_cases hM0 : M = 0
            · subst hM0
              go_wp2
              go_loopw [9, 10, 11, 41] (fun _ _ _ vi wr => ∃ (A : List Pc) (va : Option Addr) (vc c : Nat), c ≤ 0 ∧ Hid (c = A.length) ∧ vi = .int .i64 c ∧ Hid (PbOf l sw sh A 0) ∧ Hid (All8 A) ∧ Hid (wr.heap[G]? = some (.cells #[.int .i8 sw, .int .i8 sh, .slice va A.length vc] 33 (0, 0))) ∧ Hid (wr.ownsRow (G + 1) 80 5 (.slice va A.length vc) A.length (flatL A)) ∧ Hid (Below w1.heap.size w1 wr)) (fun _ _ _ vi _ => 0 - (intOf vi).toNat)
              case atStart => exact ⟨[], none, 0, 0, by omega, Lib.hid rfl, rfl, HOF0, HA80, HG0, own0, K1X⟩
              case round =>
                clear HOF0 HA80 HG0 own0 K1X KX
                obtain ⟨A, va, vc, c, hcM, HCc, rfl, HO, HA8, hG, hown, hB⟩ := hrel
                have hBs := hB.out.size
                have KB := Lib.hid (kTrans KA1.out hB.out)
                by_cases hlt : c < 0
                · exact absurd hlt (by omega)
                · obtain rfl : c = 0 := by omega
                  have rs_ := HBR.out _ KB.out
                  have HB := Lib.hid (HKW.out _ KB.out)
                  have d0 : wr.cell? ⟨G, 0, none⟩ = some (.int .i8 sw) := cell_of_row _ _ 0 _ _ _ hG.out
                  have d1 : wr.cell? ⟨G, 1, none⟩ = some (.int .i8 sh) := cell_of_row _ _ 1 _ _ _ hG.out
                  have d2 : wr.cell? ⟨G, 2, none⟩ = some (.slice va A.length vc) := cell_of_row _ _ 2 _ _ _ hG.out
                  have lG := blk_lt hG.out
                  have HAc := Lib.hid (show A.length ≤ 1048576 by have := HCc.out; omega)
                  have HOF := Lib.hid (show ∀ a b r, boardOk a b r = true → bdL a b r = l → sw = a ∧ sh = b ∧ A = r from fun a b r h1 h2 => by
                    obtain ⟨e1, e2, e3, e4⟩ := HO.out a b r h1 h2
                    refine ⟨e1, e2, ?_⟩
                    rw [e3]; exact List.take_of_length_le (by have := HCc.out; omega))
                  clear HO KB hG
                  go_wp2_with (refine wpList_store_row rfl 33 _ _ rfl X #[.int .i8 sw, .int .i8 sh, .slice va A.length vc] rfl rfl 33 _ rs_ (by kernel_rfl) (by kernel_rfl) (by kernel_rfl) ?_)
                  refine bodyPost_ret (v := .tuple #[.agg #[.int .i8 sw, .int .i8 sh, .slice va A.length vc], .bool true]) (results_cell_tmp rfl _ _ X 33 #[.int .i8 sw, .int .i8 sh, .slice va A.length vc] (0, 0) _ _ rfl rfl (setRow_heap _ _ _ _ _ _ rs_) Tryd.underlying33 rfl (by kernel_rfl)) rfl ?_
                  refine ⟨sw, sh, A, _, true, rfl, by unfold i8; omega, by unfold i8; omega, HA8.out, HAc.out, ?_, (fun _ h => HLN.out h Hn2.out), (fun a b r h1 h2 => ⟨rfl, HOF.out a b r h1 h2⟩), kRowW HB.out hXw _⟩
                  have hs := SlW.of_owns (l := A) (n := A.length) hown.out
                  exact (hs.row (by omega)).mono (by omega) (by simp [World.setRow])
            · skip
              go_wp2
              go_loopw [9, 10, 11, 41] (fun _ _ _ vi wr => ∃ (A : List Pc) (va : Option Addr) (vc c : Nat), c ≤ M ∧ Hid (c = A.length) ∧ vi = .int .i64 c ∧ Hid (PbOf l sw sh A M) ∧ Hid (All8 A) ∧ Hid (wr.heap[G]? = some (.cells #[.int .i8 sw, .int .i8 sh, .slice va A.length vc] 33 (0, 0))) ∧ Hid (wr.ownsRow (G + 1) 80 5 (.slice va A.length vc) A.length (flatL A)) ∧ Hid (Below w1.heap.size w1 wr)) (fun _ _ _ vi _ => M - (intOf vi).toNat)
              case atStart => exact ⟨[], none, 0, 0, by omega, Lib.hid rfl, rfl, HOF0, HA80, HG0, own0, K1X⟩
              case round =>
                clear HOF0 HA80 HG0 own0 K1X KX
                obtain ⟨A, va, vc, c, hcM, HCc, rfl, HO, HA8, hG, hown, hB⟩ := hrel
                have hBs := hB.out.size
                have KB := Lib.hid (kTrans KA1.out hB.out)
                by_cases hlt : c < M
                · obtain ⟨ln, hln⟩ : ∃ ln, Ls[A.length]? = some ln := ⟨_, List.getElem?_eq_getElem (by have := HMM.out; have := HCc.out; omega)⟩
                  have hlm : ln.length ≤ 1048576 := HSH.out ln (List.mem_cons_of_mem _ (List.mem_of_getElem? hln))
                  have q : wr.cell? ⟨g, 1 + c, none⟩ = some (.string (bsT ln)) := by have h := HST.out wr hB.out (1 + c) ln (by rw [HCc.out, Nat.add_comm]; simpa using hln); rwa [Nat.zero_add] at h
                  have hgr := Nat.lt_of_lt_of_le lg hB.out.size
                  have hAl : A.length < M := by have := HCc.out; omega
                  have HRP := Lib.hid (parsePiece_any ln wr hlm (HER.out _ KB.out) (HKD.out _ KB.out))
                  have Hln := Lib.hid hln
                  clear hln hlm
                  go_wp2_with fail
                  refine HRP.out.mono ?_
                  rintro e w4 ⟨p, ok2, rfl, h8, hq, hb4⟩
                  have HAN := Lib.hid (show All8 (A ++ [p]) from fun x hx => by
                    rcases List.mem_append.1 hx with hx | hx
                    · exact HA8.out x hx
                    · obtain rfl := List.mem_singleton.1 hx
                      exact h8)
                  have HQ := Lib.hid hq
                  obtain ⟨px, py, pk, pt, pd⟩ := p
                  simp only
                  obtain ⟨w5, hw5⟩ : ∃ z, w4.alloc (.cells #[.int .i8 px, .int .i8 py, .int .i8 pk, .int .i8 pt, .int .i8 pd] 80) = z := ⟨_, rfl⟩
                  have k5 : Below w4.heap.size w4 w5 := by rw [← hw5]; exact kAlloc (Below.refl _ _) _
                  have b5 : w5.heap[w4.heap.size]? = some (.cells #[.int .i8 px, .int .i8 py, .int .i8 pk, .int .i8 pt, .int .i8 pd] 80 (0, 0)) := by rw [← hw5]; exact heap_alloc_new _ _
                  obtain ⟨Q, hQ⟩ : ∃ Q, w4.heap.size = Q := ⟨_, rfl⟩
                  rw [hQ] at b5
                  have K5 := Lib.hid (kTrans hB.out (kTrans hb4 k5))
                  have hz5 := K5.out.size
                  have bG5 := blk_below hG.out (kTrans hb4 k5)
                  have Own5 := Lib.hid (owns_below hown.out (kTrans hb4 k5))
                  have Hw5 := Lib.hid hw5
                  have HQe := Lib.hid hQ
                  have HB5 := Lib.hid b5
                  have HG5 := Lib.hid bG5
                  clear q HRP h8 hq hb4 k5 b5 bG5 hw5 hQ hown hG hB HA8 KB
                  cases ok2 with
                  | false =>
                    go_upto_region 11 with fail
                    try rw [Hw5.out]
                    try rw [HQe.out]
                    clear Hw5 HQe
                    have HF := Lib.hid (pb_no HLS.out HO.out Hln.out hAl (fun q h1 h2 => by have h3 := (HQ.out q h1 h2).1; cases h3))
                    have rs_ := HBR.out _ (kTrans KA1.out K5.out)
                    have HB := Lib.hid (HKW.out _ (kTrans KA1.out K5.out))
                    clear HO HAN HQ HG5 Own5 HB5
                    have lX_ := blk_lt rs_
                    go_wp2_with (refine wpList_store_row rfl 33 _ _ rfl X #[.int .i8 0, .int .i8 0, .slice none 0 0] rfl rfl 33 _ rs_ (by kernel_rfl) (by kernel_rfl) (by kernel_rfl) ?_)
                    refine bodyPost_ret (v := .tuple #[.agg #[.int .i8 0, .int .i8 0, .slice none 0 0], .bool false]) (results_cell_tmp rfl _ _ X 33 #[.int .i8 0, .int .i8 0, .slice none 0 0] (0, 0) _ _ rfl rfl (setRow_heap _ _ _ _ _ _ rs_) Tryd.underlying33 rfl (by kernel_rfl)) rfl ?_
                    exact pb_fail rfl HF.out (kRowW HB.out hXw _)
                  | true =>
                    go_upto_region 12 with fail
                    try rw [Hw5.out]
                    try rw [HQe.out]
                    clear Hw5 HQe
                    have HON := Lib.hid (pb_of HLS.out HO.out Hln.out hAl (fun q h1 h2 => (HQ.out q h1 h2).2))
                    have Hblk := Lib.hid (owns_block Own5.out)
                    have d0 : w5.cell? ⟨Q, 0, none⟩ = some (.int .i8 px) := cell_of_row _ _ 0 _ _ _ HB5.out
                    have d1 : w5.cell? ⟨Q, 1, none⟩ = some (.int .i8 py) := cell_of_row _ _ 1 _ _ _ HB5.out
                    have d2 : w5.cell? ⟨Q, 2, none⟩ = some (.int .i8 pk) := cell_of_row _ _ 2 _ _ _ HB5.out
                    have d3 : w5.cell? ⟨Q, 3, none⟩ = some (.int .i8 pt) := cell_of_row _ _ 3 _ _ _ HB5.out
                    have d4 : w5.cell? ⟨Q, 4, none⟩ = some (.int .i8 pd) := cell_of_row _ _ 4 _ _ _ HB5.out
                    have lq := blk_lt HB5.out
                    have q2 : w5.cell? ⟨G, 2, none⟩ = some (.slice va A.length vc) := cell_of_row _ _ 2 _ _ _ HG5.out
                    have lg5 := blk_lt HG5.out
                    have hA200 : A.length ≤ 200 := by omega
                    clear HO HQ HB5 Hln
                    go_wp2_with (at_builtin; refine wpList_append_own _ rfl _ _ 31 rfl (G + 1) 80 j0 _ 5 5 Tryd.underlying31 Hj.out Hj1.out Hj2.out Hj3.out rfl (by decide) (.slice va A.length vc) A.length (flatL A) rfl (owns_below Own5.out (by repeat (first | with_reducible exact Below.refl _ _ | (with_reducible refine kSet ?_ ?hB _; case hB => (simp; try omega)) | with_reducible refine kAlloc ?_ _ | with_reducible refine Below.drew ?_ | with_reducible refine kDrewN ?_ _ | with_reducible refine kTrans ?_ (by assumption)))) ⟨w5.heap.size, 0, none⟩ 1 1 [.int .i8 px, .int .i8 py, .int .i8 pk, .int .i8 pt, .int .i8 pd] rfl rfl (World.news_of_block (cs := #[.int .i8 px, .int .i8 py, .int .i8 pk, .int .i8 pt, .int .i8 pd]) (heap_alloc_new _ _)) (by simp [Value.oneCell']) ?qc4 ?qc5 ?qc6 ?_)
                    case qc4 => unfold maxLen; omega
                    case qc5 => omega
                    case qc6 => simp; omega
                    intro v7 w7 hown7 hgr7 hnil
                    obtain ⟨vb, vd, rfl⟩ := owns_slice hown7
                    have k6 : Below w5.heap.size w5 (w5.alloc (.cells #[.int .i8 px, .int .i8 py, .int .i8 pk, .int .i8 pt, .int .i8 pd] 80)) := kAlloc (Below.refl _ _) _
                    have hG7 := (hgr7.block G (by have := k6.size; omega) (fun e => by have := (Hblk.out G e.symm).1; omega)).trans (blk_below HG5.out k6)
                    have hB7 : Below w1.heap.size w1 w7 := (kTrans K5.out k6).grown hgr7 (kTrans K5.out k6).size (by intro q hq; have := (Hblk.out q hq).1; omega)
                    have q2 := cell_of_row _ _ 2 _ _ _ hG7
                    have qf : ∀ j, w7.frozen? ⟨G, j, none⟩ = false := fun j => frozen_of_row _ _ j _ _ hG7
                    have lg7 := blk_lt hG7
                    have hal : (A ++ [(⟨px, py, pk, pt, pd⟩ : Pc)]).length = A.length + 1 := by rw [List.length_append]; rfl
                    have HG8 := Lib.hid (show (w7.setCell ⟨G, 2, none⟩ (.slice vb (A.length + 1) vd)).heap[G]? = some (.cells #[.int .i8 sw, .int .i8 sh, .slice vb (A ++ [(⟨px, py, pk, pt, pd⟩ : Pc)]).length vd] 33 (0, 0)) by rw [hal]; exact blk_set_same' hG7)
                    have Own8 := Lib.hid (show (w7.setCell ⟨G, 2, none⟩ (.slice vb (A.length + 1) vd)).ownsRow (G + 1) 80 5 (.slice vb (A ++ [(⟨px, py, pk, pt, pd⟩ : Pc)]).length vd) (A ++ [(⟨px, py, pk, pt, pd⟩ : Pc)]).length (flatL (A ++ [(⟨px, py, pk, pt, pd⟩ : Pc)])) by rw [hal, flatL_one_end]; exact owns_set_far hown7 hG7 (by decide) 2 _)
                    have HB8 := Lib.hid (show Below w1.heap.size w1 (w7.setCell ⟨G, 2, none⟩ (.slice vb (A.length + 1) vd)) from kSet hB7 (by show w1.heap.size ≤ G; omega) _)
                    have hal3 : Hid (c + 1 = (A ++ [(⟨px, py, pk, pt, pd⟩ : Pc)]).length) := Lib.hid (by rw [hal, HCc.out])
                    clear hal hown7 hgr7 hnil hG7 hB7 k6 Own5 Hblk HG5 d0 d1 d2 d3 d4
                    go_wp2
                    exact ⟨⟨A ++ [⟨px, py, pk, pt, pd⟩], vb, vd, c + 1, by omega, hal3, by go_num, HON, HAN, HG8, Own8, HB8⟩, by simp [intOf]; omega⟩
                · obtain rfl : c = M := by omega
                  have rs_ := HBR.out _ KB.out
                  have HB := Lib.hid (HKW.out _ KB.out)
                  have d0 : wr.cell? ⟨G, 0, none⟩ = some (.int .i8 sw) := cell_of_row _ _ 0 _ _ _ hG.out
                  have d1 : wr.cell? ⟨G, 1, none⟩ = some (.int .i8 sh) := cell_of_row _ _ 1 _ _ _ hG.out
                  have d2 : wr.cell? ⟨G, 2, none⟩ = some (.slice va A.length vc) := cell_of_row _ _ 2 _ _ _ hG.out
                  have lG := blk_lt hG.out
                  have HAc := Lib.hid (show A.length ≤ 1048576 by have := HCc.out; omega)
                  have HOF := Lib.hid (show ∀ a b r, boardOk a b r = true → bdL a b r = l → sw = a ∧ sh = b ∧ A = r from fun a b r h1 h2 => by
                    obtain ⟨e1, e2, e3, e4⟩ := HO.out a b r h1 h2
                    refine ⟨e1, e2, ?_⟩
                    rw [e3]; exact List.take_of_length_le (by have := HCc.out; omega))
                  clear HO KB hG
                  go_wp2_with (refine wpList_store_row rfl 33 _ _ rfl X #[.int .i8 sw, .int .i8 sh, .slice va A.length vc] rfl rfl 33 _ rs_ (by kernel_rfl) (by kernel_rfl) (by kernel_rfl) ?_)
                  refine bodyPost_ret (v := .tuple #[.agg #[.int .i8 sw, .int .i8 sh, .slice va A.length vc], .bool true]) (results_cell_tmp rfl _ _ X 33 #[.int .i8 sw, .int .i8 sh, .slice va A.length vc] (0, 0) _ _ rfl rfl (setRow_heap _ _ _ _ _ _ rs_) Tryd.underlying33 rfl (by kernel_rfl)) rfl ?_
                  refine ⟨sw, sh, A, _, true, rfl, by unfold i8; omega, by unfold i8; omega, HA8.out, HAc.out, ?_, (fun _ h => HLN.out h Hn2.out), (fun a b r h1 h2 => ⟨rfl, HOF.out a b r h1 h2⟩), kRowW HB.out hXw _⟩
                  have hs := SlW.of_owns (l := A) (n := A.length) hown.out
                  exact (hs.row (by omega)).mono (by omega) (by simp [World.setRow])
  · have HS2 := Lib.hid (parseSmalls_len g2 0 n2 n2 2 w2 h2 (by omega) (by omega))
    have HF := Lib.hid (pb_two HLS.out (.inl (by rw [Hn2.out]; exact h2)))
    have rs_ := HBR.out _ K2.out
    have HB := Lib.hid (HKW.out _ K2.out)
    clear hst2 HSH2 HSH HST
    go_wp2_with fail
    refine HS2.out.mono ?_
    rintro e w' ⟨rfl, h⟩
    obtain rfl : w2 = w' := h
    go_wp2_with (refine wpList_store_row rfl 33 _ _ rfl X #[.int .i8 0, .int .i8 0, .slice none 0 0] rfl rfl 33 _ rs_ (by kernel_rfl) (by kernel_rfl) (by kernel_rfl) ?_)
    refine bodyPost_ret (v := .tuple #[.agg #[.int .i8 0, .int .i8 0, .slice none 0 0], .bool false]) (results_cell_tmp rfl _ _ X 33 #[.int .i8 0, .int .i8 0, .slice none 0 0] (0, 0) _ _ rfl rfl (setRow_heap _ _ _ _ _ _ rs_) Tryd.underlying33 rfl (by kernel_rfl)) rfl ?_
    exact pb_fail rfl HF.out (kRowW HB.out hXw _)
end Go.Proofs.YtobhppkcgioheaaDoor
