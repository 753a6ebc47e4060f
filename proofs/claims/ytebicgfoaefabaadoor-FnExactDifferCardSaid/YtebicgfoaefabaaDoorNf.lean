/- Differ, both sides. -/
import Derived.Test.YtebicgfoaefabaaDoorCm0
import Derived.Test.YtebicgfoaefabaaDoorNo1
import Derived.Test.YtebicgfoaefabaaDoorTz
namespace Go.Proofs.YtebicgfoaefabaaDoor
open Go.ChangeShapes Go.WideShapes Go.ChangeAt Go.RowKit Go.Joins Go.Deep
set_option linter.unusedVariables false
set_option linter.unusedSimpArgs false

def nfQ (R1 R2 : Bool) (ni nj : Int) (r r' x : Nat) : Int × Int := if R1 = true ∧ R2 = true then (if ni = nj ∧ r = r' then leastQ x else (0, 4)) else (0, 1)
def onlyN (Q : Exit → Act → World → Prop) (e : Exit) (a : Act) (w : World) : Prop := e = .normal ∧ Q .normal a w
theorem regionW_of_H {id : Nat} {P : Program} {ops : Array Oper} {Q : Exit → Act → World → Prop} {a : Act} {w : World} (S : World → Prop) (hm : P.follows .mixedOrders = true)
    (hS : S w.drew) (h : S w.drew → wpAnyH P .any ops (onlyN Q) S ops.size (Array.replicate ops.size false) a w.drew) : (Code.region id ops true).wp P Q a w :=
  wp_mono (wp_region_any hm (wpAny_of_held _ _ _ _ (h hS))) (fun e a w hq => by obtain ⟨rfl, hq⟩ := hq; exact hq)
theorem ne_factsF {a b : Int} (h : ¬ a = b) : (a != b) = true ∧ (a == b) = false := ⟨by simpa using h, by simpa using h⟩
set_option maxRecDepth 100000 in
set_option maxHeartbeats 16000000 in
theorem implDiffer_any (b k b' k' : Nat) (ni nj : Int) (l l' : List Nd) (p p' : List Int) (w : World) (h : NK w b k l p) (h' : NK w b' k' l' p') (h8 : NdsWf l) (h9 : ShsWf p) (h8' : NdsWf l') (h9' : ShsWf p') (bw : i8 ni) (bw' : i8 nj) (m0 : l.length ≤ 1048576) (m1 : p.length ≤ 1048576) (m0' : l'.length ≤ 1048576) (m1' : p'.length ≤ 1048576) (R1 R2 : Bool) (hR1 : R1 = netOk ni l p) (hR2 : R2 = netOk nj l' p') (hst : TabB 1 w) (x : Nat) (hx : apartA (pickT (tabsL ni.toNat l []) p) (pickT (tabsL nj.toNat l' []) p') 0 = (x : Int)) (hx64 : x < 18446744073709551616) (E C : Int) (hQ : nfQ R1 R2 ni nj p.length p'.length x = (E, C)) :
    Calls Tryd.prog 8 #[.agg #[.int .i8 ni, .slice (some ⟨b, 0, none⟩) l.length l.length, .slice (some ⟨k, 0, none⟩) p.length p.length], .agg #[.int .i8 nj, .slice (some ⟨b', 0, none⟩) l'.length l'.length, .slice (some ⟨k', 0, none⟩) p'.length p'.length]] w fun e w' => e = .returned (.tuple #[.int .i64 E, .int .i64 C]) ∧ Below w.heap.size w w' := by
  obtain ⟨W, hW⟩ : ∃ W, (w.alloc (.cells #[.int .i8 ni, .slice (some ⟨b, 0, none⟩) l.length l.length, .slice (some ⟨k, 0, none⟩) p.length p.length] 32)).alloc (.cells #[.int .i8 nj, .slice (some ⟨b', 0, none⟩) l'.length l'.length, .slice (some ⟨k', 0, none⟩) p'.length p'.length] 32) = W := ⟨_, rfl⟩
  have kW : Below w.heap.size w W := by rw [← hW]; exact kAlloc (kAlloc (Below.refl _ _) _) _
  have gA : NwAt W w.heap.size ni (.slice (some ⟨b, 0, none⟩) l.length l.length) (.slice (some ⟨k, 0, none⟩) p.length p.length) := by rw [← hW]; exact (NwAt.box w ni _ _ 32).below (kAlloc (Below.refl _ _) _) (by simp)
  have gB : NwAt W (w.heap.size + 1) nj (.slice (some ⟨b', 0, none⟩) l'.length l'.length) (.slice (some ⟨k', 0, none⟩) p'.length p'.length) := by
    rw [← hW]
    have h := NwAt.box (w.alloc (.cells #[.int .i8 ni, .slice (some ⟨b, 0, none⟩) l.length l.length, .slice (some ⟨k, 0, none⟩) p.length p.length] 32)) nj (.slice (some ⟨b', 0, none⟩) l'.length l'.length) (.slice (some ⟨k', 0, none⟩) p'.length p'.length) 32
    simpa only [World.size_alloc] using h
  have la := gA.lt
  have lb := gB.lt
  have GA := Lib.hid (fun W2 (h2 : Below W.heap.size W W2) => gA.below h2 la)
  have GB := Lib.hid (fun W2 (h2 : Below W.heap.size W W2) => gB.below h2 lb)
  have HA := Lib.hid (fun W2 (h2 : Below W.heap.size W W2) => h.below (kTrans kW h2))
  have HB := Lib.hid (fun W2 (h2 : Below W.heap.size W W2) => h'.below (kTrans kW h2))
  have HW := Lib.hid hW
  obtain ⟨x0, x1, x2⟩ := gA
  obtain ⟨y0, y1, y2⟩ := gB
  have HS := Lib.hid (fun W2 (h2 : Below w.heap.size w W2) => hst.below h2)
  clear hW h h' hst
  have HV1 := Lib.hid (fun W2 (h2 : Below W.heap.size W W2) => implValidNetwork_any b k ni l p W2 (HA.out W2 h2) h8 h9 bw m0 m1 R1 hR1)
  have HV2 := Lib.hid (fun W2 (h2 : Below W.heap.size W W2) => implValidNetwork_any b' k' nj l' p' W2 (HB.out W2 h2) h8' h9' bw' m0' m1' R2 hR2)
  cases R1 with
  | false =>
    obtain ⟨rfl, rfl⟩ := pair_LQ (show ((0 : Int), (1 : Int)) = (E, C) by rw [← hQ]; unfold nfQ; rw [if_neg (by simp)])
    clear hQ hR1 hR2 hx
    go_enter Tryd.func8, Tryd.ntmps8
    go_upto_region 1 with fail
    try rw [HW.out]
    go_wp2_with fail
    refine (HV1.out _ (Below.refl _ _)).mono ?_
    rintro e w1 ⟨rfl, hd1⟩
    have hb1 : Below W.heap.size W w1 := hd1
    have T1 := kTrans kW hb1
    clear x0 x1 x2 y0 y1 y2 hd1
    obtain ⟨x0, x1, x2⟩ := GA.out w1 hb1
    obtain ⟨y0, y1, y2⟩ := GB.out w1 hb1
    go_wp2
    exact bodyPost_ret (v := .tuple #[.int .i64 0, .int .i64 1]) (by simp [results, Tryd.results8, go_sem]) rfl ⟨rfl, T1⟩
  | true =>
    cases R2 with
    | false =>
      obtain ⟨rfl, rfl⟩ := pair_LQ (show ((0 : Int), (1 : Int)) = (E, C) by rw [← hQ]; unfold nfQ; rw [if_neg (by simp)])
      clear hQ hR1 hR2 hx
      go_enter Tryd.func8, Tryd.ntmps8
      go_upto_region 1 with fail
      try rw [HW.out]
      go_wp2_with fail
      refine (HV1.out _ (Below.refl _ _)).mono ?_
      rintro e w1 ⟨rfl, hd1⟩
      have hb1 : Below W.heap.size W w1 := hd1
      have T1 := kTrans kW hb1
      clear x0 x1 x2 y0 y1 y2 hd1
      obtain ⟨x0, x1, x2⟩ := GA.out w1 hb1
      obtain ⟨y0, y1, y2⟩ := GB.out w1 hb1
      go_wp2_with fail
      refine (HV2.out _ hb1).mono ?_
      rintro e w2 ⟨rfl, hd2⟩
      have hb2 := kTrans hb1 hd2
      have T2 := kTrans kW hb2
      clear x0 x1 x2 y0 y1 y2 T1 hb1 hd2
      obtain ⟨x0, x1, x2⟩ := GA.out w2 hb2
      obtain ⟨y0, y1, y2⟩ := GB.out w2 hb2
      go_wp2
      exact bodyPost_ret (v := .tuple #[.int .i64 0, .int .i64 1]) (by simp [results, Tryd.results8, go_sem]) rfl ⟨rfl, T2⟩
    | true =>
      have hp1 := netOk_parts hR1.symm
      have hp2 := netOk_parts hR2.symm
      obtain ⟨n, rfl⟩ : ∃ n : Nat, ni = n := ⟨ni.toNat, by omega⟩
      obtain ⟨n', rfl⟩ : ∃ n' : Nat, nj = n' := ⟨nj.toNat, by omega⟩
      rw [Int.toNat_natCast, Int.toNat_natCast] at hx
      obtain ⟨A1, hA1⟩ : ∃ A1, pickT (tabsL n l []) p = A1 := ⟨_, rfl⟩
      obtain ⟨A2, hA2⟩ : ∃ A2, pickT (tabsL n' l' []) p' = A2 := ⟨_, rfl⟩
      have hl1 : A1.length = p.length := by rw [← hA1]; exact pickT_length _ _
      have hl2 : A2.length = p'.length := by rw [← hA2]; exact pickT_length _ _
      have HC := Lib.hid (fun W2 (F : Bool) hF => areComparable_any n n' b k b' k' l l' p p' W2 F hF)
      have HTa := Lib.hid (fun W2 (h2 : Below W.heap.size W W2) => outputTables_any n b k l p W2 (HA.out W2 h2) hR1.symm A1 hA1)
      have HTb := Lib.hid (fun W2 (h2 : Below W.heap.size W W2) => outputTables_any n' b' k' l' p' W2 (HB.out W2 h2) hR2.symm A2 hA2)
      have hp3 : 0 < p.length ∧ p.length ≤ 8 := by omega
      clear hp1 hp2 HA HB
      rw [hA1, hA2] at hx
      have HX := Lib.hid hx
      have HL1 := Lib.hid hl1
      have HL2 := Lib.hid hl2
      clear hR1 hR2 hx hA1 hA2 hl1 hl2
      cases hK : (decide ((n : Int) = n') && decide ((p.length : Int) = p'.length)) with
      | false =>
        have hne : ¬ ((n : Int) = n' ∧ p.length = p'.length) := by
          intro ⟨e1, e2⟩
          rw [e1, e2] at hK
          simp at hK
        obtain ⟨rfl, rfl⟩ := pair_LQ (show ((0 : Int), (4 : Int)) = (E, C) by rw [← hQ]; unfold nfQ; rw [if_pos ⟨rfl, rfl⟩, if_neg hne])
        have HK := Lib.hid hK
        clear hQ hK hne
        go_enter Tryd.func8, Tryd.ntmps8
        go_upto_region 1 with fail
        try rw [HW.out]
        go_wp2_with fail
        refine (HV1.out _ (Below.refl _ _)).mono ?_
        rintro e w1 ⟨rfl, hd1⟩
        have hb1 : Below W.heap.size W w1 := hd1
        have T1 := kTrans kW hb1
        clear x0 x1 x2 y0 y1 y2 hd1
        obtain ⟨x0, x1, x2⟩ := GA.out w1 hb1
        obtain ⟨y0, y1, y2⟩ := GB.out w1 hb1
        go_wp2_with fail
        refine (HV2.out _ hb1).mono ?_
        rintro e w2 ⟨rfl, hd2⟩
        have hb2 := kTrans hb1 hd2
        have T2 := kTrans kW hb2
        clear x0 x1 x2 y0 y1 y2 T1 hb1 hd2
        obtain ⟨x0, x1, x2⟩ := GA.out w2 hb2
        obtain ⟨y0, y1, y2⟩ := GB.out w2 hb2
        go_wp2_with fail
        refine (HC.out _ false HK.out).mono ?_
        rintro e w3 ⟨rfl, hd3⟩
        have hb3 := kTrans hb2 hd3
        have T3 := kTrans kW hb3
        clear x0 x1 x2 y0 y1 y2 T2 hb2 hd3
        obtain ⟨x0, x1, x2⟩ := GA.out w3 hb3
        obtain ⟨y0, y1, y2⟩ := GB.out w3 hb3
        go_wp2
        exact bodyPost_ret (v := .tuple #[.int .i64 0, .int .i64 4]) (by simp [results, Tryd.results8, go_sem]) rfl ⟨rfl, T3⟩
      | true =>
        have HK := Lib.hid hK
        have hnn : (n : Int) = n' := by simp only [Bool.and_eq_true, decide_eq_true_eq] at hK; omega
        have hpp : p.length = p'.length := by simp only [Bool.and_eq_true, decide_eq_true_eq] at hK; omega
        have HQ2 := Lib.hid (show leastQ x = (E, C) by rw [← hQ]; unfold nfQ; rw [if_pos ⟨rfl, rfl⟩, if_pos ⟨hnn, hpp⟩])
        have HPP := Lib.hid hpp
        have HP3 := Lib.hid hp3
        clear hK hQ hnn hpp hp3
        go_enter Tryd.func8, Tryd.ntmps8
        go_upto_region 1 with fail
        try rw [HW.out]
        go_wp2_with fail
        refine (HV1.out _ (Below.refl _ _)).mono ?_
        rintro e w1 ⟨rfl, hd1⟩
        have hb1 : Below W.heap.size W w1 := hd1
        have T1 := kTrans kW hb1
        clear x0 x1 x2 y0 y1 y2 hd1
        obtain ⟨x0, x1, x2⟩ := GA.out w1 hb1
        obtain ⟨y0, y1, y2⟩ := GB.out w1 hb1
        go_wp2_with fail
        refine (HV2.out _ hb1).mono ?_
        rintro e w2 ⟨rfl, hd2⟩
        have hb2 := kTrans hb1 hd2
        have T2 := kTrans kW hb2
        clear x0 x1 x2 y0 y1 y2 T1 hb1 hd2
        obtain ⟨x0, x1, x2⟩ := GA.out w2 hb2
        obtain ⟨y0, y1, y2⟩ := GB.out w2 hb2
        go_wp2_with fail
        refine (HC.out _ true HK.out).mono ?_
        rintro e w3 ⟨rfl, hd3⟩
        have hb3 := kTrans hb2 hd3
        have T3 := kTrans kW hb3
        clear x0 x1 x2 y0 y1 y2 T2 hb2 hd3
        obtain ⟨x0, x1, x2⟩ := GA.out w3 hb3
        obtain ⟨y0, y1, y2⟩ := GB.out w3 hb3
        go_upto_region 5 with fail
        refine regionW_of_H (fun W' => NwAt W' w.heap.size n (.slice (some ⟨b, 0, none⟩) l.length l.length) (.slice (some ⟨k, 0, none⟩) p.length p.length) ∧ NwAt W' (w.heap.size + 1) n' (.slice (some ⟨b', 0, none⟩) l'.length l'.length) (.slice (some ⟨k', 0, none⟩) p'.length p'.length)) (by kernel_rfl) ⟨GA.out _ (Below.drew hb3), GB.out _ (Below.drew hb3)⟩ (fun hHeld => ?_)
        clear x0 x1 x2 y0 y1 y2
        refine wpAnyH_take (i := 0) (v := .agg #[.int .i8 n, .slice (some ⟨b, 0, none⟩) l.length l.length, .slice (some ⟨k, 0, none⟩) p.length p.length]) rfl (by kernel_rfl) (by kernel_rfl) (by kernel_rfl) (fun _ _ _ h => absurd h.1 (by simp)) (Or.inl ⟨by rfl, fun w7 hSw => ?_⟩) (by assumption) ?_
        · obtain ⟨x0, x1, x2⟩ := hSw.1
          have lx := hSw.1.lt
          clear hSw
          go_simp
        try simp only [Act.put, List.setIfInBounds_toArray, List.set_cons_zero, List.set_cons_succ]
        refine wpAnyH_take (i := 2) (v := .agg #[.int .i8 n', .slice (some ⟨b', 0, none⟩) l'.length l'.length, .slice (some ⟨k', 0, none⟩) p'.length p'.length]) rfl (by kernel_rfl) (by kernel_rfl) (by kernel_rfl) (fun _ _ _ h => absurd h.1 (by simp)) (Or.inl ⟨by rfl, fun w7 hSw => ?_⟩) (by assumption) ?_
        · obtain ⟨x0, x1, x2⟩ := hSw.2
          have lx := hSw.2.lt
          clear hSw
          go_simp
        try simp only [Act.put, List.setIfInBounds_toArray, List.set_cons_zero, List.set_cons_succ]
        refine wpAnyH_ready (rs := [1]) (by kernel_rfl) (by simp) ?_
        refine AllReadyH.cons rfl (fun K hK => ?_) AllReadyH.nil
        go_simp
        go_wp2_with (go_at_call 21
                     refine (HTa.out _ (Below.drew hb3)).mono ?_
                     rintro e W4 ⟨v4, rfl, hs4, hd4⟩
                     obtain ⟨va4, vc4, rfl⟩ := hs4.form
                     obtain ⟨g4, o4, rfl, hu4, hg4, hc4, -⟩ := slUs_someN hs4.sl (by have := HL1.out; have := HP3.out; omega)
                     have kk4 : Below W.heap.size W W4 := kTrans (Below.drew hb3) hd4
                     have HU4 := Lib.hid hu4
                     have HBB4 := Lib.hid hd4
                     have KK4 := Lib.hid kk4
                     clear hs4 hd4 hu4 kk4)
        refine hK.out _ _ ⟨GA.out _ KK4.out, GB.out _ KK4.out⟩ (fun hHeld => ?_)
        clear hK K
        refine wpAnyH_ready (rs := [3]) (by kernel_rfl) (by simp) ?_
        refine AllReadyH.cons rfl (fun K hK => ?_) AllReadyH.nil
        go_simp
        go_wp2_with (go_at_call 21
                     refine (HTb.out _ KK4.out).mono ?_
                     rintro e W5 ⟨v5, rfl, hs5, hd5⟩
                     obtain ⟨va5, vc5, rfl⟩ := hs5.form
                     obtain ⟨g5, o5, rfl, hu5, hg5, hc5, -⟩ := slUs_someN hs5.sl (by have := HL2.out; have := HP3.out; have := HPP.out; omega)
                     have kk5 : Below W.heap.size W W5 := kTrans (KK4.out) hd5
                     have HU5 := Lib.hid hu5
                     have HBB5 := Lib.hid hd5
                     have KK5 := Lib.hid kk5
                     clear hs5 hd5 hu5 kk5)
        refine hK.out _ _ ⟨GA.out _ KK5.out, GB.out _ KK5.out⟩ (fun hHeld => ?_)
        clear hK K
        refine wpAnyH_ready (rs := [4]) (by kernel_rfl) (by simp) ?_
        refine AllReadyH.cons rfl (fun K hK => ?_) AllReadyH.nil
        go_simp
        have HU45 := Lib.hid (HU4.out.below HBB5.out hg4)
        have hg45 := Nat.lt_of_lt_of_le hg4 HBB5.out.size
        have hl2 : A2.length = p.length := HL2.out.trans HPP.out.symm
        rw [HL1.out] at hc4 ⊢
        rw [hl2] at hc5 ⊢
        have HRA := Lib.hid (rowApart_any g4 o4 g5 o5 p.length vc4 vc5 A1 A2 W5 HL1.out hl2 HU45.out HU5.out hg45 hg5 (by have := HP3.out; omega) hc4 hc5 (HS.out _ (kTrans kW KK5.out)) x HX.out hx64 E C HQ2.out)
        clear hl2
        go_wp2_with (go_at_call 20
                     refine (HRA.out).mono ?_
                     rintro e W7 ⟨rfl, hb7⟩
                     have KK7 := Lib.hid (kTrans KK5.out hb7)
                     clear hb7)
        refine hK.out _ _ ⟨GA.out _ KK7.out, GB.out _ KK7.out⟩ (fun hHeld => ?_)
        clear hK K HRA
        have HTT := Lib.hid (kTrans kW KK7.out)
        refine wpAnyH_take (i := 5) (v := .int .i64 E) rfl (by kernel_rfl) (by kernel_rfl) (by kernel_rfl) (fun _ _ _ h => absurd h.1 (by simp)) (Or.inl ⟨by rfl, fun w7 hSw => ?_⟩) (by assumption) ?_
        · clear hSw
          go_simp
        try simp only [Act.put, List.setIfInBounds_toArray, List.set_cons_zero, List.set_cons_succ]
        refine wpAnyH_take (i := 6) (v := .int .i64 C) rfl (by kernel_rfl) (by kernel_rfl) (by kernel_rfl) (fun _ _ _ h => absurd h.1 (by simp)) (Or.inl ⟨by rfl, fun w7 hSw => ?_⟩) (by assumption) ?_
        · clear hSw
          go_simp
        try simp only [Act.put, List.setIfInBounds_toArray, List.set_cons_zero, List.set_cons_succ]
        refine wpAnyH_ready (rs := [7]) (by kernel_rfl) (by simp) ?_
        refine AllReadyH.cons rfl (fun K hK => ?_) AllReadyH.nil
        go_simp
        refine hK.out _ _ (by assumption) (fun hHeld => ?_)
        clear hK K
        refine wpAnyH_ready (rs := [8]) (by kernel_rfl) (by simp) ?_
        refine AllReadyH.cons rfl (fun K hK => ?_) AllReadyH.nil
        go_simp
        refine hK.out _ _ (by assumption) (fun hHeld => ?_)
        clear hK K
        refine wpAnyH_done (by kernel_rfl) ?_ _
        refine ⟨rfl, ?_⟩
        go_wp2
        exact bodyPost_ret (v := .tuple #[.int .i64 E, .int .i64 C]) (by simp [results, Tryd.results8, go_sem]) rfl ⟨rfl, HTT.out⟩
set_option maxRecDepth 100000 in
set_option maxHeartbeats 16000000 in
theorem specDiffer_any (b k b' k' : Nat) (ni nj : Int) (l l' : List Nd) (p p' : List Int) (w : World) (h : NK w b k l p) (h' : NK w b' k' l' p') (h8 : NdsWf l) (h9 : ShsWf p) (h8' : NdsWf l') (h9' : ShsWf p') (bw : i8 ni) (bw' : i8 nj) (m0 : l.length ≤ 1048576) (m1 : p.length ≤ 1048576) (m0' : l'.length ≤ 1048576) (m1' : p'.length ≤ 1048576) (R1 R2 : Bool) (hR1 : R1 = netOk ni l p) (hR2 : R2 = netOk nj l' p') (x : Nat) (hx : apartA (pickT (tabsL ni.toNat l []) p) (pickT (tabsL nj.toNat l' []) p') 0 = (x : Int)) (hx64 : x < 18446744073709551616) (E C : Int) (hQ : nfQ R1 R2 ni nj p.length p'.length x = (E, C)) :
    Calls Tryd.prog 6 #[.agg #[.int .i8 ni, .slice (some ⟨b, 0, none⟩) l.length l.length, .slice (some ⟨k, 0, none⟩) p.length p.length], .agg #[.int .i8 nj, .slice (some ⟨b', 0, none⟩) l'.length l'.length, .slice (some ⟨k', 0, none⟩) p'.length p'.length]] w fun e w' => e = .returned (.tuple #[.int .i64 E, .int .i64 C]) ∧ Below w.heap.size w w' := by
  obtain ⟨W, hW⟩ : ∃ W, (w.alloc (.cells #[.int .i8 ni, .slice (some ⟨b, 0, none⟩) l.length l.length, .slice (some ⟨k, 0, none⟩) p.length p.length] 32)).alloc (.cells #[.int .i8 nj, .slice (some ⟨b', 0, none⟩) l'.length l'.length, .slice (some ⟨k', 0, none⟩) p'.length p'.length] 32) = W := ⟨_, rfl⟩
  have kW : Below w.heap.size w W := by rw [← hW]; exact kAlloc (kAlloc (Below.refl _ _) _) _
  have gA : NwAt W w.heap.size ni (.slice (some ⟨b, 0, none⟩) l.length l.length) (.slice (some ⟨k, 0, none⟩) p.length p.length) := by rw [← hW]; exact (NwAt.box w ni _ _ 32).below (kAlloc (Below.refl _ _) _) (by simp)
  have gB : NwAt W (w.heap.size + 1) nj (.slice (some ⟨b', 0, none⟩) l'.length l'.length) (.slice (some ⟨k', 0, none⟩) p'.length p'.length) := by
    rw [← hW]
    have h := NwAt.box (w.alloc (.cells #[.int .i8 ni, .slice (some ⟨b, 0, none⟩) l.length l.length, .slice (some ⟨k, 0, none⟩) p.length p.length] 32)) nj (.slice (some ⟨b', 0, none⟩) l'.length l'.length) (.slice (some ⟨k', 0, none⟩) p'.length p'.length) 32
    simpa only [World.size_alloc] using h
  have la := gA.lt
  have lb := gB.lt
  have GA := Lib.hid (fun W2 (h2 : Below W.heap.size W W2) => gA.below h2 la)
  have GB := Lib.hid (fun W2 (h2 : Below W.heap.size W W2) => gB.below h2 lb)
  have HA := Lib.hid (fun W2 (h2 : Below W.heap.size W W2) => h.below (kTrans kW h2))
  have HB := Lib.hid (fun W2 (h2 : Below W.heap.size W W2) => h'.below (kTrans kW h2))
  have HW := Lib.hid hW
  have GA0 := Lib.hid (fun W2 (h2 : Below W.heap.size W W2) => gA.below h2 la)
  have GB0 := Lib.hid (fun W2 (h2 : Below W.heap.size W W2) => gB.below h2 lb)
  obtain ⟨x0, x1, x2⟩ := gA
  obtain ⟨y0, y1, y2⟩ := gB
  clear hW h h'
  have HV1 := Lib.hid (fun W2 (h2 : Below W.heap.size W W2) => l04Ok_any w.heap.size b k ni l p W2 (GA0.out W2 h2) (HA.out W2 h2) h8 h9 bw m0 m1 R1 hR1)
  have HV2 := Lib.hid (fun W2 (h2 : Below W.heap.size W W2) => l04Ok_any (w.heap.size + 1) b' k' nj l' p' W2 (GB0.out W2 h2) (HB.out W2 h2) h8' h9' bw' m0' m1' R2 hR2)
  cases R1 with
  | false =>
    obtain ⟨rfl, rfl⟩ := pair_LQ (show ((0 : Int), (1 : Int)) = (E, C) by rw [← hQ]; unfold nfQ; rw [if_neg (by simp)])
    clear hQ hR1 hR2 hx
    go_enter Tryd.func6, Tryd.ntmps6
    go_upto_region 1 with fail
    try rw [HW.out]
    go_wp2_with fail
    refine (HV1.out _ (Below.refl _ _)).mono ?_
    rintro e w1 ⟨rfl, hd1⟩
    have hb1 : Below W.heap.size W w1 := hd1
    have T1 := kTrans kW hb1
    clear x0 x1 x2 y0 y1 y2 hd1
    obtain ⟨x0, x1, x2⟩ := GA.out w1 hb1
    obtain ⟨y0, y1, y2⟩ := GB.out w1 hb1
    go_wp2
    exact bodyPost_ret (v := .tuple #[.int .i64 0, .int .i64 1]) (by simp [results, Tryd.results6, go_sem]) rfl ⟨rfl, T1⟩
  | true =>
    cases R2 with
    | false =>
      obtain ⟨rfl, rfl⟩ := pair_LQ (show ((0 : Int), (1 : Int)) = (E, C) by rw [← hQ]; unfold nfQ; rw [if_neg (by simp)])
      clear hQ hR1 hR2 hx
      go_enter Tryd.func6, Tryd.ntmps6
      go_upto_region 1 with fail
      try rw [HW.out]
      go_wp2_with fail
      refine (HV1.out _ (Below.refl _ _)).mono ?_
      rintro e w1 ⟨rfl, hd1⟩
      have hb1 : Below W.heap.size W w1 := hd1
      have T1 := kTrans kW hb1
      clear x0 x1 x2 y0 y1 y2 hd1
      obtain ⟨x0, x1, x2⟩ := GA.out w1 hb1
      obtain ⟨y0, y1, y2⟩ := GB.out w1 hb1
      go_wp2_with fail
      refine (HV2.out _ hb1).mono ?_
      rintro e w2 ⟨rfl, hd2⟩
      have hb2 := kTrans hb1 hd2
      have T2 := kTrans kW hb2
      clear x0 x1 x2 y0 y1 y2 T1 hb1 hd2
      obtain ⟨x0, x1, x2⟩ := GA.out w2 hb2
      obtain ⟨y0, y1, y2⟩ := GB.out w2 hb2
      go_wp2
      exact bodyPost_ret (v := .tuple #[.int .i64 0, .int .i64 1]) (by simp [results, Tryd.results6, go_sem]) rfl ⟨rfl, T2⟩
    | true =>
      have hp1 := netOk_parts hR1.symm
      have hp2 := netOk_parts hR2.symm
      obtain ⟨n, rfl⟩ : ∃ n : Nat, ni = n := ⟨ni.toNat, by omega⟩
      obtain ⟨n', rfl⟩ : ∃ n' : Nat, nj = n' := ⟨nj.toNat, by omega⟩
      rw [Int.toNat_natCast, Int.toNat_natCast] at hx
      obtain ⟨A1, hA1⟩ : ∃ A1, pickT (tabsL n l []) p = A1 := ⟨_, rfl⟩
      obtain ⟨A2, hA2⟩ : ∃ A2, pickT (tabsL n' l' []) p' = A2 := ⟨_, rfl⟩
      have hl1 : A1.length = p.length := by rw [← hA1]; exact pickT_length _ _
      have hl2 : A2.length = p'.length := by rw [← hA2]; exact pickT_length _ _
      have HTa := Lib.hid (fun W2 (h2 : Below W.heap.size W W2) => l04Outputs_any n w.heap.size b k l p W2 (GA0.out W2 h2) (HA.out W2 h2) hR1.symm A1 hA1)
      have HTb := Lib.hid (fun W2 (h2 : Below W.heap.size W W2) => l04Outputs_any n' (w.heap.size + 1) b' k' l' p' W2 (GB0.out W2 h2) (HB.out W2 h2) hR2.symm A2 hA2)
      have hp3 : 0 < p.length ∧ p.length ≤ 8 := by omega
      clear hp1 hp2 HA HB
      rw [hA1, hA2] at hx
      have HX := Lib.hid hx
      have HL1 := Lib.hid hl1
      have HL2 := Lib.hid hl2
      clear hR1 hR2 hx hA1 hA2 hl1 hl2
      by_cases hnn : (n : Int) = n'
      · by_cases hpp : p.length = p'.length
        · have HQ2 : Hid (leastQ x = (E, C)) := Lib.hid (by rw [← hQ]; unfold nfQ; rw [if_pos ⟨rfl, rfl⟩, if_pos ⟨hnn, hpp⟩])
          have HPP := Lib.hid hpp
          have HP3 := Lib.hid hp3
          have e1 : ((n : Int) != (n' : Int)) = false := by simp [hnn]
          have e2 : ((n : Int) == (n' : Int)) = true := by simp [hnn]
          have e3 : ((p.length : Int) != (p'.length : Int)) = false := by simp [hpp]
          have e4 : ((p.length : Int) == (p'.length : Int)) = true := by simp [hpp]
          clear hQ hnn hpp hp3
          go_enter Tryd.func6, Tryd.ntmps6
          go_upto_region 1 with fail
          try rw [HW.out]
          go_wp2_with fail
          refine (HV1.out _ (Below.refl _ _)).mono ?_
          rintro e w1 ⟨rfl, hd1⟩
          have hb1 : Below W.heap.size W w1 := hd1
          have T1 := kTrans kW hb1
          clear x0 x1 x2 y0 y1 y2 hd1
          obtain ⟨x0, x1, x2⟩ := GA.out w1 hb1
          obtain ⟨y0, y1, y2⟩ := GB.out w1 hb1
          go_wp2_with fail
          refine (HV2.out _ hb1).mono ?_
          rintro e w2 ⟨rfl, hd2⟩
          have hb2 := kTrans hb1 hd2
          have T2 := kTrans kW hb2
          clear x0 x1 x2 y0 y1 y2 T1 hb1 hd2
          obtain ⟨x0, x1, x2⟩ := GA.out w2 hb2
          obtain ⟨y0, y1, y2⟩ := GB.out w2 hb2
          go_wp2_with fail
          refine (HTa.out _ hb2).mono ?_
          rintro e w3 ⟨v3, rfl, hua, hd3⟩
          have hb3 := kTrans hb2 hd3
          have T3 := kTrans kW hb3
          obtain ⟨va3, vc3, rfl⟩ := hua.form
          obtain ⟨g3, o3, rfl, hu3, hg3, hc3, -⟩ := slUs_someN hua.sl (by have := HL1.out; have := HP3.out; omega)
          have HU3 := Lib.hid hu3
          clear hua hu3 x0 x1 x2 y0 y1 y2
          obtain ⟨x0, x1, x2⟩ := GA.out w3 hb3
          obtain ⟨y0, y1, y2⟩ := GB.out w3 hb3
          go_wp2_with fail
          refine (HTb.out _ hb3).mono ?_
          rintro e w4 ⟨v4, rfl, hub, hd4⟩
          have hb4 := kTrans hb3 hd4
          have T4 := kTrans kW hb4
          obtain ⟨va4, vc4, rfl⟩ := hub.form
          obtain ⟨g4, o4, rfl, hu4, hg4, hc4, -⟩ := slUs_someN hub.sl (by have := HL2.out; have := HP3.out; have := HPP.out; omega)
          have HU4 := Lib.hid hu4
          clear hub hu4 x0 x1 x2 y0 y1 y2
          obtain ⟨x0, x1, x2⟩ := GA.out w4 hb4
          obtain ⟨y0, y1, y2⟩ := GB.out w4 hb4
          have HU34 := Lib.hid (HU3.out.below hd4 hg3)
          have hg34 := Nat.lt_of_lt_of_le hg3 hd4.size
          have hl2 : A2.length = p.length := HL2.out.trans HPP.out.symm
          rw [HL1.out] at hc3 ⊢
          rw [hl2] at hc4 ⊢
          have Hn1 := HL1
          have Hn2 := Lib.hid hl2
          obtain ⟨q, hq⟩ : ∃ q, p.length = q := ⟨_, rfl⟩
          have hmax : q ≤ 1048576 := by have := HP3.out; omega
          rw [hq] at Hn1 Hn2 hc3 hc4 ⊢
          clear hl2 hq HL1 HL2 HPP HP3 e1 e2 e3 e4 x0 x1 x2 y0 y1 y2 GA GB GA0 GB0 HTa HTb HV1 HV2
          obtain ⟨t, ht⟩ : ∃ t, Lib.ctz 64 x = t := ⟨_, rfl⟩
          have HTT := Lib.hid ht
          have HQ : Hid ((if x = 0 then ((0 : Int), (6 : Int)) else (((t : Nat) : Int), (0 : Int))) = (E, C)) := Lib.hid (by rw [← ht]; exact HQ2.out)
          clear ht HQ2
          have HX3 : Hid (apartA (A1.drop 0) (A2.drop 0) 0 = (x : Int)) := HX
          clear HX
          go_wp2
          go_loopw [8, 9] (fun a i wr => ∃ (k : Nat) (s : Int), k ≤ q ∧ i = .int .i64 k ∧ a = .int .u64 s ∧ Hid (apartA (A1.drop k) (A2.drop k) s = (x : Int)) ∧ Below w4.heap.size w4 wr) (fun _ i _ => q - (intOf i).toNat)
          case atStart => exact ⟨0, 0, by omega, rfl, rfl, HX3, by first | exact Below.refl _ _ | exact Below.drew (Below.refl _ _)⟩
          case round =>
            clear HX3
            obtain ⟨k, s, hk, rfl, rfl, hf, hbr⟩ := hrel
            by_cases hlt : k < q
            · have hlk1 : k < A1.length := by rw [Hn1.out]; exact hlt
              have hlk2 : k < A2.length := by rw [Hn2.out]; exact hlt
              have d1 := (HU34.out.below hbr hg34) k hlk1
              have d2 := (HU4.out.below hbr hg4) k hlk2
              have hq := hf.out
              rw [List.drop_eq_getElem_cons hlk1, List.drop_eq_getElem_cons hlk2] at hq
              unfold apartA at hq
              generalize A1[k] = u at d1 hq
              generalize A2[k] = v at d2 hq
              have HF := Lib.hid hq
              clear hf hq
              go_wp2
              go_quiet (fail)
              go_wp2
              exact ⟨⟨k + 1, _, by omega, by go_num, rfl, HF, kDrewN hbr _⟩, by simp [intOf]; omega⟩
            · obtain rfl : k = q := by omega
              obtain rfl : s = (x : Int) := by rw [← hf.out, List.drop_of_length_le (by rw [Hn1.out]; exact Nat.le_refl _)]; rfl
              clear hf
              by_cases h0 : x = 0
              · obtain ⟨rfl, rfl⟩ := pair_LQ (show ((0 : Int), (6 : Int)) = (E, C) by rw [← HQ.out, if_pos h0])
                subst h0
                clear HQ
                go_wp2
                exact bodyPost_ret (v := .tuple #[.int .i64 0, .int .i64 6]) (by simp [results, Tryd.results6, go_sem]) rfl ⟨rfl, kTrans T4 hbr⟩
              · obtain ⟨m, hm, ht64⟩ := ctz_parts h0 hx64
                obtain ⟨rfl, rfl⟩ := pair_LQ (show (((t : Nat) : Int), (0 : Int)) = (E, C) by rw [← HQ.out, if_neg h0])
                have h0' : ((x : Int) == 0) = false := by simpa using h0
                rw [HTT.out] at hm ht64
                have HM := Lib.hid hm
                clear HQ HTT hm h0
                go_wp2
                go_loopw [10] (fun i wr => ∃ k : Nat, k ≤ t ∧ i = .int .i64 k ∧ Below w4.heap.size w4 wr) (fun i _ => t - (intOf i).toNat)
                case atStart => exact ⟨0, by omega, rfl, hbr⟩
                case round =>
                  clear hbr
                  obtain ⟨k, hk, rfl, hbr⟩ := hrel
                  have hi0 : (0 : Int) ≤ (k : Int) := by omega
                  have hi1 : (k : Int) ≤ 64 := by omega
                  have e : (k : Int).toNat = k := by simp
                  have hand := and_one_nat (x := x) (k := k) hx64
                  by_cases hlt : k < t
                  · rw [bit_below HM.out hlt] at hand
                    go_wp2
                    exact ⟨⟨k + 1, by omega, by go_num, hbr⟩, by simp [intOf]; omega⟩
                  · obtain rfl : k = t := by omega
                    rw [bit_at HM.out] at hand
                    go_wp2
                    exact bodyPost_ret (v := .tuple #[.int .i64 k, .int .i64 0]) (by simp [results, Tryd.results6, go_sem]) rfl ⟨rfl, kTrans T4 hbr⟩
        · obtain ⟨rfl, rfl⟩ := pair_LQ (show ((0 : Int), (4 : Int)) = (E, C) by rw [← hQ]; unfold nfQ; rw [if_pos ⟨rfl, rfl⟩, if_neg (fun h => hpp h.2)])
          clear hQ HX
          obtain ⟨e1, e2⟩ := ne_factsF (show ¬ (p.length : Int) = (p'.length : Int) by omega)
          have e3 : ((n : Int) != (n' : Int)) = false := by simp [hnn]
          have e4 : ((n : Int) == (n' : Int)) = true := by simp [hnn]
          clear hnn hpp
          go_enter Tryd.func6, Tryd.ntmps6
          go_upto_region 1 with fail
          try rw [HW.out]
          go_wp2_with fail
          refine (HV1.out _ (Below.refl _ _)).mono ?_
          rintro e w1 ⟨rfl, hd1⟩
          have hb1 : Below W.heap.size W w1 := hd1
          have T1 := kTrans kW hb1
          clear x0 x1 x2 y0 y1 y2 hd1
          obtain ⟨x0, x1, x2⟩ := GA.out w1 hb1
          obtain ⟨y0, y1, y2⟩ := GB.out w1 hb1
          go_wp2_with fail
          refine (HV2.out _ hb1).mono ?_
          rintro e w2 ⟨rfl, hd2⟩
          have hb2 := kTrans hb1 hd2
          have T2 := kTrans kW hb2
          clear x0 x1 x2 y0 y1 y2 T1 hb1 hd2
          obtain ⟨x0, x1, x2⟩ := GA.out w2 hb2
          obtain ⟨y0, y1, y2⟩ := GB.out w2 hb2
          go_wp2
          exact bodyPost_ret (v := .tuple #[.int .i64 0, .int .i64 4]) (by simp [results, Tryd.results6, go_sem]) rfl ⟨rfl, T2⟩
      · obtain ⟨rfl, rfl⟩ := pair_LQ (show ((0 : Int), (4 : Int)) = (E, C) by rw [← hQ]; unfold nfQ; rw [if_pos ⟨rfl, rfl⟩, if_neg (fun h => hnn h.1)])
        clear hQ HX
        obtain ⟨e1, e2⟩ := ne_factsF hnn
        clear hnn
        go_enter Tryd.func6, Tryd.ntmps6
        go_upto_region 1 with fail
        try rw [HW.out]
        go_wp2_with fail
        refine (HV1.out _ (Below.refl _ _)).mono ?_
        rintro e w1 ⟨rfl, hd1⟩
        have hb1 : Below W.heap.size W w1 := hd1
        have T1 := kTrans kW hb1
        clear x0 x1 x2 y0 y1 y2 hd1
        obtain ⟨x0, x1, x2⟩ := GA.out w1 hb1
        obtain ⟨y0, y1, y2⟩ := GB.out w1 hb1
        go_wp2_with fail
        refine (HV2.out _ hb1).mono ?_
        rintro e w2 ⟨rfl, hd2⟩
        have hb2 := kTrans hb1 hd2
        have T2 := kTrans kW hb2
        clear x0 x1 x2 y0 y1 y2 T1 hb1 hd2
        obtain ⟨x0, x1, x2⟩ := GA.out w2 hb2
        obtain ⟨y0, y1, y2⟩ := GB.out w2 hb2
        go_wp2
        exact bodyPost_ret (v := .tuple #[.int .i64 0, .int .i64 4]) (by simp [results, Tryd.results6, go_sem]) rfl ⟨rfl, T2⟩
end Go.Proofs.YtebicgfoaefabaaDoor
