/- Texts: numbers, lines and the builder, both sides. -/
import Derived.Test.YtobhppkcgioheaaDoorTx0
import Derived.Test.YtobhppkcgioheaaDoorTxL
import Derived.Test.YtobhppkcgioheaaDoorG1
import Derived.Laws.IdiomStrings
import Derived.Deep.RegionHeld3
import Derived.Deep.DeepCutAuto
namespace Go.Proofs.YtobhppkcgioheaaDoor
open Go.ChangeShapes Go.WideShapes Go.ChangeAt Go.RowKit Go.Joins Go.Deep
set_option linter.unusedVariables false
set_option linter.unusedSimpArgs false

def onlyX (Q : Exit → Act → World → Prop) : Exit → Act → World → Prop := fun e a w => e = .normal ∧ Q e a w
theorem regionW_of_HX {id : Nat} {P : Program} {ops : Array Oper} {Q : Exit → Act → World → Prop} {a : Act} {w : World} (S : World → Prop) (hm : P.follows .mixedOrders = true)
    (hS : S w.drew) (h : S w.drew → wpAnyH P .any ops (onlyX Q) S ops.size (Array.replicate ops.size false) a w.drew) : (Code.region id ops true).wp P Q a w :=
  wp_mono (wp_region_any hm (wpAny_of_held _ _ _ _ (h hS))) (fun e a w hq => by obtain ⟨rfl, hq⟩ := hq; exact hq)
theorem blkX {W W' : World} {b : Nat} {o : Obj} (h : W.heap[b]? = some o) (g : Below W.heap.size W W') : W'.heap[b]? = some o := (g.block b (Array.getElem?_eq_some_iff.1 h).1).trans h
theorem nNewX (w : World) (o : Obj) : (w.alloc o).heap[w.heap.size]? = some o := heap_alloc_new _ _
/-! ### the program's numbers and lines -/
theorem smallText_any (n : Int) (w : World) (h0 : 0 ≤ n) (h1 : n < 100) :
    Calls Tryd.prog 87 #[.int .i8 n] w fun e w' => e = .returned (.string (bsT (decL n))) ∧ w' = w := by
  obtain ⟨i, rfl⟩ : ∃ i : Nat, n = i := ⟨n.toNat, by omega⟩
  have hc : ∀ w, Calls Tryd.prog 114 #[.int .i64 i] w fun e w' => e = .returned (.string (bsT (decL i))) ∧ w' = w := fun w => by
    have e1 : decL (i : Int) = Lib.decDigits i := by simp [decL]
    rw [e1]
    exact strconv_Itoa_small i (by omega) w
  obtain ⟨d, hd⟩ : ∃ d, decL (i : Int) = d := ⟨_, rfl⟩
  rw [hd] at hc ⊢
  have Hc := Lib.hid hc
  have hw : IntKind.i64.wrap (i : Int) = i := IntWalk.i64_in _ (by omega)
  clear hc hd
  go_enter Tryd.func87, Tryd.ntmps87
  go_wp2_with (refine (Hc.out _).mono ?_; rintro e w' ⟨rfl, rfl⟩)
  go_ret
  exact ⟨rfl, rfl⟩
theorem wordsLine_any (b o c : Nat) (ws : List (List UInt8)) (w : World) (hcells : ∀ (j : Nat) x, ws[j]? = some x → w.cell? ⟨b, o + j, none⟩ = some (.string (bsT x))) (hb : b < w.heap.size) (hcap : ws.length ≤ c) (hlen : (lineL ws).length ≤ 1000000) (hN : ws.length ≤ 1000000) :
    Calls Tryd.prog 90 #[.slice (some ⟨b, o, none⟩) ws.length c] w fun e w' => e = .returned (.string (bsT (lineL ws))) ∧ Below w.heap.size w w' := by
  have e1 : (ws.map bsT).map (·.data.toList) = ws := by
    rw [List.map_map]
    conv => rhs; rw [← List.map_id ws]
    apply List.map_congr_left
    intro x _
    exact bsT_list x
  have hj := strings_Join b o c (ws.map bsT) (bsT [32]) w (fun j x hx => by
    rw [List.getElem?_map] at hx
    cases h : ws[j]? with
    | none => rw [h] at hx; simp at hx
    | some y => rw [h] at hx; simp at hx; subst hx; exact hcells j y h) hb (by rw [List.length_map]; omega) (by rw [List.length_map]; exact hcap) (by
    rw [e1, bsT_list]
    have h2 := hlen
    simp only [lineL, List.length_append] at h2
    omega)
  rw [e1, bsT_list, List.length_map] at hj
  obtain ⟨S, hS⟩ : ∃ S, bsT (Lib.join ws [32]) = S := ⟨_, rfl⟩
  have hSs : S.size ≤ 1000000 := by
    rw [← hS, bsT_size]
    have h2 := hlen
    simp only [lineL, List.length_append] at h2
    omega
  have hj : Calls Tryd.prog 99 #[.slice (some ⟨b, o, none⟩) ws.length c, .string (bsT [32])] w fun e w' => e = .returned (.string S) ∧ Below w.heap.size w w' := by rw [← hS]; exact hj
  have e2 : bsT (lineL ws) = S ++ bsT [10] := by rw [← hS, bsT_app]; rfl
  rw [e2]
  obtain ⟨m, hm⟩ : ∃ m, ws.length = m := ⟨_, rfl⟩
  rw [hm] at hj ⊢
  have Hj := Lib.hid hj
  clear hj hcells hS e1 e2 hm hlen hN hcap
  go_enter Tryd.func90, Tryd.ntmps90
  go_wp2_with fail
  refine Hj.out.mono ?_
  rintro e w1 ⟨rfl, hb1⟩
  have HB := Lib.hid hb1
  clear hb1 Hj
  go_wp2
  go_ret
  exact ⟨rfl, HB.out⟩
/-! ### the builder -/
def BAt (B b : Nat) (L : List UInt8) (w : World) : Prop := Lib.IsBuilder 140 5 B b (Lib.byteCells L) w
theorem BAt.fresh (w : World) : BAt w.heap.size w.heap.size [] (w.alloc (.cells #[.pointer none, .slice none 0 0] 140)) := Lib.fresh_isBuilder _ _ _
theorem BAt.below {B b : Nat} {L : List UInt8} {w w' : World} (h : BAt B b L w) (g : Below w.heap.size w w') : BAt B b L w' := by
  have key : ∀ p, Lib.BuilderAt 140 5 B b p (Lib.byteCells L) w → Lib.BuilderAt 140 5 B b p (Lib.byteCells L) w' := by
    rintro p ⟨h1, v, h2, h3, h4⟩
    refine ⟨h1, v, (g.block b (Array.getElem?_eq_some_iff.1 h2).1).trans h2, ⟨h3.1, ?_⟩, h4⟩
    rcases h3.2 with h | ⟨k, cap, cur, e1, e2, e3, r⟩
    · exact .inl h
    · exact .inr ⟨k, cap, cur, e1, e2, (g.block k (Array.getElem?_eq_some_iff.1 e3).1).trans e3, r⟩
  rcases h with h | h
  · exact .inl (key _ h)
  · exact .inr (key _ h)
theorem BAt.lt {B b : Nat} {L : List UInt8} {w : World} (h : BAt B b L w) : b < w.heap.size := by
  rcases h with h | h <;> exact h.lt
theorem BAt.le {B b : Nat} {L : List UInt8} {w : World} (h : BAt B b L w) : B ≤ b := by
  rcases h with h | h <;> exact h.1
theorem writeStr_any (B b : Nat) (L r : List UInt8) (w : World) (h : BAt B b L w) (hlen : L.length + r.length ≤ 1000000) :
    Calls Tryd.prog 89 #[.pointer (some ⟨b, 0, none⟩), .string (bsT r)] w fun e w' => e = .returned (.tuple #[.int .i64 r.length, .nilIface]) ∧ BAt B b (L ++ r) w' ∧ Below B w w' := by
  have hB : B ≤ w.heap.size := Nat.le_trans h.le (Nat.le_of_lt h.lt)
  have hc := Any.Builder_WriteString (ρ := lays156_ren) { lays156 with } Builder_Extra_156 B b (Lib.byteCells L) (bsT r) w h (by rw [Lib.byteCells_length, bsT_size]; omega) hB
  refine (show Calls Tryd.prog 89 _ w _ from hc).mono ?_
  rintro e w' ⟨rfl, h1, h2⟩
  refine ⟨by rw [bsT_size], .inr ?_, h2⟩
  rw [Lib.strCells_eq, bsT_list, ← Lib.byteCells_append] at h1
  exact h1
theorem builtStr_any (B b : Nat) (L : List UInt8) (w : World) (h : BAt B b L w) :
    Calls Tryd.prog 91 #[.pointer (some ⟨b, 0, none⟩)] w fun e w' => e = .returned (.string (bsT L)) ∧ Below B w w' :=
  Builder_String_any B b L w h (Nat.le_trans h.le (Nat.le_of_lt h.lt))
/-! ### the model's numbers -/
theorem u8_digit {d : Nat} (h : d < 10) : ((UInt8.ofNat (48 + d)).toNat : Int) = 48 + (d : Int) := by
  have hc : d = 0 ∨ d = 1 ∨ d = 2 ∨ d = 3 ∨ d = 4 ∨ d = 5 ∨ d = 6 ∨ d = 7 ∨ d = 8 ∨ d = 9 := by omega
  rcases hc with rfl | rfl | rfl | rfl | rfl | rfl | rfl | rfl | rfl | rfl <;> rfl
theorem digit_back (d : Nat) (h : d < 10) (g cap : Nat) (w : World) (hc : w.cell? ⟨g, 0, none⟩ = some (.int .u8 (48 + (d : Int)))) :
    (convert 138 9 (.slice (some ⟨g, 0, none⟩) 1 cap)).run Tryd.prog w = .ok (.string (bsT [UInt8.ofNat (48 + d)])) w :=
  run_convert_bytes_back (P := Tryd.prog) w 138 9 5 ⟨g, 0, none⟩ cap [UInt8.ofNat (48 + d)] Tryd.underlying138 Tryd.underlying5 Tryd.underlying9 (fun j hj => by
    have : j = 0 := by simpa using hj
    subst this
    simp only [List.getElem_cons_zero, u8_digit h]
    exact hc)
set_option maxRecDepth 100000 in
set_option maxHeartbeats 2000000 in
theorem Decimal_lt (n : Int) (w : World) (h0 : 0 ≤ n) (h1 : n < 10) :
    Calls Tryd.prog 121 #[.int .i64 n] w fun e w' => e = .returned (.string (bsT (decL n))) ∧ Below w.heap.size w w' := by
  rw [decL_small h1]
  obtain ⟨d, rfl⟩ : ∃ d : Nat, n = d := ⟨n.toNat, by omega⟩
  have hd : d < 10 := by omega
  rw [Int.toNat_natCast]
  have hr : Int.tmod (d : Int) 10 = d := by rw [Int.tmod_eq_emod_of_nonneg (by omega)]; omega
  have hw2 : IntKind.i64.wrap (d : Int) = d := IntWalk.i64_in _ (by omega)
  have hw3 : IntKind.i64.wrap (48 + (d : Int)) = 48 + d := IntWalk.i64_in _ (by omega)
  have hw4 : IntKind.u8.wrap (48 + (d : Int)) = 48 + d := by simp [IntKind.wrap, IntKind.bits, IntKind.signed]; omega
  have hb := digit_back d hd w.heap.size 1 (w.alloc (.cells #[.int .u8 (48 + (d : Int))] 5)) (by simp)
  obtain ⟨r, hR⟩ : ∃ r, bsT [UInt8.ofNat (48 + d)] = r := ⟨_, rfl⟩
  rw [hR] at hb ⊢
  clear hR
  go_enter Tryd.func121, Tryd.ntmps121
  go_wp2
  go_ret
  exact ⟨rfl, by repeat (first | with_reducible exact Below.refl _ _ | (with_reducible refine kSet ?_ ?hB _; case hB => (simp; try omega)) | with_reducible refine kAlloc ?_ _ | with_reducible refine Below.drew ?_ | with_reducible refine kDrewN ?_ _ | with_reducible refine kTrans ?_ (by assumption))⟩
set_option maxRecDepth 100000 in
set_option maxHeartbeats 4000000 in
theorem Decimal_any : ∀ (k : Nat) (n : Int) (w : World), n.toNat ≤ k → 0 ≤ n → n ≤ 10000 →
    Calls Tryd.prog 121 #[.int .i64 n] w fun e w' => e = .returned (.string (bsT (decL n))) ∧ Below w.heap.size w w'
  | 0, n, w, hk, h0, hm => Decimal_lt n w h0 (by omega)
  | k + 1, n, w, hk, h0, hm => by
    by_cases h9 : n < 10
    · exact Decimal_lt n w h0 h9
    · have ih := fun W => Decimal_any k (n / 10) W (by omega) (by omega) (by omega)
      rw [decL_step (by omega), ← bsT_app]
      obtain ⟨D, hD⟩ : ∃ D, bsT (decL (n / 10)) = D := ⟨_, rfl⟩
      rw [hD] at ih ⊢
      obtain ⟨q, hq⟩ : ∃ q, n / 10 = q := ⟨_, rfl⟩
      rw [hq] at ih
      obtain ⟨d, hd⟩ : ∃ d, n.toNat % 10 = d := ⟨_, rfl⟩
      rw [hd]
      have hd10 : d < 10 := by omega
      have hr : Int.tmod n 10 = d := by rw [Int.tmod_eq_emod_of_nonneg h0]; omega
      have hq2 : Int.tdiv n 10 = q := by rw [Int.tdiv_eq_ediv_of_nonneg h0]; exact hq
      have hw1 : IntKind.i64.wrap q = q := IntWalk.i64_in _ (by omega)
      have hw2 : IntKind.i64.wrap (d : Int) = d := IntWalk.i64_in _ (by omega)
      have hw3 : IntKind.i64.wrap (48 + (d : Int)) = 48 + d := IntWalk.i64_in _ (by omega)
      have hw4 : IntKind.u8.wrap (48 + (d : Int)) = 48 + d := by simp [IntKind.wrap, IntKind.bits, IntKind.signed]; omega
      have hlt : ¬ n < 10 := h9
      have hlt2 : decide (n < 10) = false := by simpa using h9
      have HB := Lib.hid (fun g cap w hc => digit_back d hd10 g cap w hc)
      obtain ⟨r, hR⟩ : ∃ r, bsT [UInt8.ofNat (48 + d)] = r := ⟨_, rfl⟩
      rw [hR] at HB ⊢
      have IH := Lib.hid ih
      have hDs : D.size + r.size ≤ 1000000 := by rw [← hD, ← hR, bsT_size, bsT_size]; have := decL_len4 (n := n / 10) (by omega); simp only [List.length_cons, List.length_nil]; omega
      have hDn : ¬ 9223372036854775807 < D.size + r.size := by omega
      clear ih hD hq hd hR h9 hk hm h0
      go_enter Tryd.func121, Tryd.ntmps121
      go_wp2_with fail
      refine regionW_of_HX (fun _ => True) (by kernel_rfl) trivial (fun hHeld => ?_)
      have K0 := Lib.hid (show Below w.heap.size w w.drew from Below.drew (Below.refl _ _))
      obtain ⟨W, hW⟩ : ∃ W, w.drew = W := ⟨_, rfl⟩
      rw [hW] at K0 ⊢
      clear hW
      refine wpAnyH_take (i := 0) (v := .int .i64 n) rfl (by kernel_rfl) (by kernel_rfl) (by kernel_rfl) (fun _ _ _ h => absurd h.1 (by simp)) (Or.inl ⟨by rfl, fun w7 hSw => ?_⟩) (by assumption) ?_
      · clear hSw
        go_simp
      try simp only [Act.put, List.setIfInBounds_toArray, List.set_cons_zero, List.set_cons_succ]
      refine wpAnyH_take (i := 1) (v := .int .i64 q) rfl (by kernel_rfl) (by kernel_rfl) (by kernel_rfl) (fun _ _ _ h => absurd h.1 (by simp)) (Or.inl ⟨by rfl, fun w7 hSw => ?_⟩) (by assumption) ?_
      · clear hSw
        go_simp
      try simp only [Act.put, List.setIfInBounds_toArray, List.set_cons_zero, List.set_cons_succ]
      refine wpAnyH_take (i := 3) (v := .int .i64 n) rfl (by kernel_rfl) (by kernel_rfl) (by kernel_rfl) (fun _ _ _ h => absurd h.1 (by simp)) (Or.inl ⟨by rfl, fun w7 hSw => ?_⟩) (by assumption) ?_
      · clear hSw
        go_simp
      try simp only [Act.put, List.setIfInBounds_toArray, List.set_cons_zero, List.set_cons_succ]
      refine wpAnyH_take (i := 4) (v := .int .i64 d) rfl (by kernel_rfl) (by kernel_rfl) (by kernel_rfl) (fun _ _ _ h => absurd h.1 (by simp)) (Or.inl ⟨by rfl, fun w7 hSw => ?_⟩) (by assumption) ?_
      · clear hSw
        go_simp
      try simp only [Act.put, List.setIfInBounds_toArray, List.set_cons_zero, List.set_cons_succ]
      refine wpAnyH_take (i := 5) (v := .int .i64 (48 + (d : Int))) rfl (by kernel_rfl) (by kernel_rfl) (by kernel_rfl) (fun _ _ _ h => absurd h.1 (by simp)) (Or.inl ⟨by rfl, fun w7 hSw => ?_⟩) (by assumption) ?_
      · clear hSw
        go_simp
      try simp only [Act.put, List.setIfInBounds_toArray, List.set_cons_zero, List.set_cons_succ]
      refine wpAnyH_take (i := 6) (v := .int .u8 (48 + (d : Int))) rfl (by kernel_rfl) (by kernel_rfl) (by kernel_rfl) (fun _ _ _ h => absurd h.1 (by simp)) (Or.inl ⟨by rfl, fun w7 hSw => ?_⟩) (by assumption) ?_
      · clear hSw
        go_simp
      try simp only [Act.put, List.setIfInBounds_toArray, List.set_cons_zero, List.set_cons_succ]
      refine wpAnyH_ready (rs := [2, 7]) (by kernel_rfl) (by simp) ?_
      refine AllReadyH.cons rfl (fun K hK => ?_) (AllReadyH.cons rfl (fun K hK => ?_) AllReadyH.nil)
      · skip
        go_simp
        go_wp2_with (go_at_call 121
                     refine (IH.out W).mono ?_
                     rintro e xt1 ⟨rfl, kt1⟩
                     have Kt1 := Lib.hid (kTrans K0.out kt1))
        refine hK.out _ _ trivial (fun _ => ?_)
        clear hK K kt1
        refine wpAnyH_ready (rs := [7]) (by kernel_rfl) (by simp) ?_
        refine AllReadyH.cons rfl (fun K hK => ?_) AllReadyH.nil
        · skip
          go_simp
          obtain ⟨xt2, et2⟩ : ∃ z, xt1.alloc (.cells #[.int .u8 (48 + (d : Int))] 5) = z := ⟨_, rfl⟩
          have kt2 : Below xt1.heap.size xt1 xt2 := by rw [← et2]; exact kAlloc (Below.refl _ _) _
          have bt2 : xt2.heap[xt1.heap.size]? = some (.cells #[.int .u8 (48 + (d : Int))] 5 (0, 0)) := by rw [← et2]; exact nNewX _ _
          try rw [et2]
          obtain ⟨gt2, ft2⟩ : ∃ z, xt1.heap.size = z := ⟨_, rfl⟩
          have Kt2 := Lib.hid (kTrans Kt1.out kt2)
          rw [ft2] at bt2 ⊢
          have bl2 := Lib.hid bt2
          refine hK.out _ _ trivial (fun _ => ?_)
          clear hK K kt2 bt2 et2 ft2
          refine wpAnyH_ready (rs := [8]) (by kernel_rfl) (by simp) ?_
          refine AllReadyH.cons rfl (fun K hK => ?_) AllReadyH.nil
          · skip
            have hb3 := HB.out gt2 1 xt2 (cell_of_row _ _ 0 _ _ _ bl2.out)
            go_simp
            refine hK.out _ _ trivial (fun _ => ?_)
            clear hK K hb3
            refine wpAnyH_ready (rs := [9]) (by kernel_rfl) (by simp) ?_
            refine AllReadyH.cons rfl (fun K hK => ?_) AllReadyH.nil
            · skip
              go_simp
              refine hK.out _ _ trivial (fun _ => ?_)
              clear hK K
              refine wpAnyH_ready (rs := [10]) (by kernel_rfl) (by simp) ?_
              refine AllReadyH.cons rfl (fun K hK => ?_) AllReadyH.nil
              · skip
                go_simp
                refine hK.out _ _ trivial (fun _ => ?_)
                clear hK K
                refine wpAnyH_done (by kernel_rfl) ?_ _
                refine ⟨rfl, ?_⟩
                go_wp2
                go_ret
                exact ⟨rfl, Kt2.out⟩
      · skip
        go_simp
        obtain ⟨xt1, et1⟩ : ∃ z, W.alloc (.cells #[.int .u8 (48 + (d : Int))] 5) = z := ⟨_, rfl⟩
        have kt1 : Below W.heap.size W xt1 := by rw [← et1]; exact kAlloc (Below.refl _ _) _
        have bt1 : xt1.heap[W.heap.size]? = some (.cells #[.int .u8 (48 + (d : Int))] 5 (0, 0)) := by rw [← et1]; exact nNewX _ _
        try rw [et1]
        obtain ⟨gt1, ft1⟩ : ∃ z, W.heap.size = z := ⟨_, rfl⟩
        have Kt1 := Lib.hid (kTrans K0.out kt1)
        rw [ft1] at bt1 ⊢
        have bl1 := Lib.hid bt1
        refine hK.out _ _ trivial (fun _ => ?_)
        clear hK K kt1 bt1 et1 ft1
        refine wpAnyH_ready (rs := [2, 8]) (by kernel_rfl) (by simp) ?_
        refine AllReadyH.cons rfl (fun K hK => ?_) (AllReadyH.cons rfl (fun K hK => ?_) AllReadyH.nil)
        · skip
          go_simp
          go_wp2_with (go_at_call 121
                       refine (IH.out xt1).mono ?_
                       rintro e xt2 ⟨rfl, kt2⟩
                       have Kt2 := Lib.hid (kTrans Kt1.out kt2))
          have bl2 := Lib.hid (blkX bl1.out kt2)
          refine hK.out _ _ trivial (fun _ => ?_)
          clear hK K kt2
          refine wpAnyH_ready (rs := [8]) (by kernel_rfl) (by simp) ?_
          refine AllReadyH.cons rfl (fun K hK => ?_) AllReadyH.nil
          · skip
            have hb3 := HB.out gt1 1 xt2 (cell_of_row _ _ 0 _ _ _ bl2.out)
            go_simp
            refine hK.out _ _ trivial (fun _ => ?_)
            clear hK K hb3
            refine wpAnyH_ready (rs := [9]) (by kernel_rfl) (by simp) ?_
            refine AllReadyH.cons rfl (fun K hK => ?_) AllReadyH.nil
            · skip
              go_simp
              refine hK.out _ _ trivial (fun _ => ?_)
              clear hK K
              refine wpAnyH_ready (rs := [10]) (by kernel_rfl) (by simp) ?_
              refine AllReadyH.cons rfl (fun K hK => ?_) AllReadyH.nil
              · skip
                go_simp
                refine hK.out _ _ trivial (fun _ => ?_)
                clear hK K
                refine wpAnyH_done (by kernel_rfl) ?_ _
                refine ⟨rfl, ?_⟩
                go_wp2
                go_ret
                exact ⟨rfl, Kt2.out⟩
        · skip
          have hb2 := HB.out gt1 1 xt1 (cell_of_row _ _ 0 _ _ _ bl1.out)
          go_simp
          refine hK.out _ _ trivial (fun _ => ?_)
          clear hK K hb2
          refine wpAnyH_ready (rs := [2]) (by kernel_rfl) (by simp) ?_
          refine AllReadyH.cons rfl (fun K hK => ?_) AllReadyH.nil
          · skip
            go_simp
            go_wp2_with (go_at_call 121
                         refine (IH.out xt1).mono ?_
                         rintro e xt3 ⟨rfl, kt3⟩
                         have Kt3 := Lib.hid (kTrans Kt1.out kt3))
            have bl3 := Lib.hid (blkX bl1.out kt3)
            refine hK.out _ _ trivial (fun _ => ?_)
            clear hK K kt3
            refine wpAnyH_ready (rs := [9]) (by kernel_rfl) (by simp) ?_
            refine AllReadyH.cons rfl (fun K hK => ?_) AllReadyH.nil
            · skip
              go_simp
              refine hK.out _ _ trivial (fun _ => ?_)
              clear hK K
              refine wpAnyH_ready (rs := [10]) (by kernel_rfl) (by simp) ?_
              refine AllReadyH.cons rfl (fun K hK => ?_) AllReadyH.nil
              · skip
                go_simp
                refine hK.out _ _ trivial (fun _ => ?_)
                clear hK K
                refine wpAnyH_done (by kernel_rfl) ?_ _
                refine ⟨rfl, ?_⟩
                go_wp2
                go_ret
                exact ⟨rfl, Kt3.out⟩
end Go.Proofs.YtobhppkcgioheaaDoor
