/- TrimNetwork, the model. -/
import Derived.Test.YtdnjamlibnmpfaaTr0
import Derived.Deep.RegionLaw
namespace Go.Proofs.Ytdnjamlibnmpfaa
open Go.ChangeShapes Go.WideShapes Go.ChangeAt Go.RowKit Go.Joins Go.Deep
set_option linter.unusedVariables false
set_option linter.unusedSimpArgs false

theorem info_boolT : (Try.prog.info? 4).map (fun i => (i.zero, i.size, i.bytes)) = some (some (.bool false), 1, 1) := by kernel_rfl
theorem owns_set_lt {w : World} {base n size : Nat} {e : TypeId} {v : Value} {xs : List Value} {B : Nat} (h : w.ownsRow base e size v n xs) (hB : B < base) (j : Nat) (u : Value) : (w.setCell ⟨B, j, none⟩ u).ownsRow base e size v n xs := by
  refine ⟨h.1, ?_⟩
  rcases h.2 with h2 | ⟨g, cap, cur, h1, h2, h3, r⟩
  · exact .inl h2
  · refine .inr ⟨g, cap, cur, h1, h2, ?_, r⟩
    rw [Below.heap_setCell _ _ _ _ (by simp only; omega)]; exact h3
theorem keep3 {w : World} {O b k g i j q t : Nat} {u v x : Value} (h1 : w.cell? ⟨b, i, none⟩ = some u) (h2 : w.cell? ⟨k, j, none⟩ = some v) (h3 : w.cell? ⟨g, q, none⟩ = some x) (n1 : O ≠ b) (n2 : O ≠ k) (n3 : O ≠ g) :
    (∀ y, (w.setCell ⟨O, t, none⟩ y).cell? ⟨b, i, none⟩ = some u) ∧ (∀ y, (w.setCell ⟨O, t, none⟩ y).cell? ⟨k, j, none⟩ = some v) ∧ (∀ y, (w.setCell ⟨O, t, none⟩ y).cell? ⟨g, q, none⟩ = some x) :=
  ⟨fun y => (World.cell?_setCell_far _ _ _ _ n1).trans h1, fun y => (World.cell?_setCell_far _ _ _ _ n2).trans h2, fun y => (World.cell?_setCell_far _ _ _ _ n3).trans h3⟩
theorem nilT_owns {w : World} {base size : Nat} {e : TypeId} : w.ownsRow base e size (.slice none 0 0) 0 [] := ⟨by simp, .inl ⟨rfl, rfl⟩⟩
theorem TRow.lower {B : Nat} {w w' : World} {g n : Nat} {F : Nat → Bool} (h : TRow w g n F) (b : Below B w w') (hb : g < B) : TRow w' g n F :=
  ⟨Nat.lt_of_lt_of_le h.lt b.size, fun k hk => (b.cell (p := ⟨g, k, none⟩) hb).trans (h.at_ k hk), fun j => (b.frozen (p := ⟨g, j, none⟩) hb).trans (h.fz j)⟩
theorem SRow.lower {B : Nat} {w w' : World} {g n : Nat} {F : Nat → Int} (h : SRow w g n F) (b : Below B w w') (hb : g < B) : SRow w' g n F :=
  ⟨Nat.lt_of_lt_of_le h.lt b.size, fun k hk => (b.cell (p := ⟨g, k, none⟩) hb).trans (h.at_ k hk), fun j => (b.frozen (p := ⟨g, j, none⟩) hb).trans (h.fz j)⟩
set_option maxRecDepth 100000 in
set_option maxHeartbeats 16000000 in
theorem l04Trim_any (n bb b k cb ck : Nat) (l : List Nd) (p : List Int) (w : World) (h0 : NwAt w bb n (.slice (some ⟨b, 0, none⟩) l.length cb) (.slice (some ⟨k, 0, none⟩) p.length ck)) (h : NK w b k l p) (hok : netOk n l p = true) (P : Nat → Int) (K : List Nd) (hK : keptT l p = (P, K)) :
    Calls Try.prog 61 #[.pointer (some ⟨bb, 0, none⟩)] w fun e w' => ∃ v u, e = .returned (.agg #[.int .i8 n, v, u]) ∧ NwR w.heap.size w'.heap.size w' K (pickP P p) v u ∧ Below w.heap.size w w' := by
  have hnp := netOk_parts hok
  have hl80 : 1 ≤ l.length ∧ l.length ≤ 80 := by omega
  have hp8 : 1 ≤ p.length ∧ p.length ≤ 8 := by omega
  have hn6 : 1 ≤ n ∧ n ≤ 6 := by omega
  have HR := Lib.hid (outsOkN_all hnp.2.2.2.2)
  have HN := Lib.hid (fun i (hi : i < l.length) => netOk_node hok i hi)
  obtain ⟨i0, hi0, hi1, hi2, hi3⟩ := info_parts info_boolT
  have Hi := Lib.hid hi0
  have Hi1 := Lib.hid hi1
  have Hi2 := Lib.hid hi2
  have Hi3 := Lib.hid hi3
  obtain ⟨j0, hj0, hj1, hj2, hj3⟩ := info_parts info_i16n
  have Hj := Lib.hid hj0
  have Hj1 := Lib.hid hj1
  have Hj2 := Lib.hid hj2
  have Hj3 := Lib.hid hj3
  obtain ⟨m0, hm0, hm1, hm2, hm3⟩ := info_parts info_Nd
  have Hm := Lib.hid hm0
  have Hm1 := Lib.hid hm1
  have Hm2 := Lib.hid hm2
  have Hm3 := Lib.hid hm3
  clear hj0 hj1 hj2 hj3 hm0 hm1 hm2 hm3
  obtain ⟨W0, hW⟩ : ∃ W0, w.alloc (.cells #[.int .i8 0, .slice none 0 0, .slice none 0 0] 30) = W0 := ⟨_, rfl⟩
  have k0 : Below w.heap.size w W0 := by rw [← hW]; exact kAlloc (Below.refl _ _) _
  have bR : W0.heap[w.heap.size]? = some (.cells #[.int .i8 0, .slice none 0 0, .slice none 0 0] 30 (0, 0)) := by rw [← hW]; exact nNew _ _
  have lw := blk_lt bR
  have lbb := h0.lt
  have HX := Lib.hid (fun W (hW : Below W0.heap.size W0 W) => h0.below (kTrans k0 hW) lbb)
  have HK := Lib.hid (fun W (hW : Below W0.heap.size W0 W) => h.below (kTrans k0 hW))
  have HKZ := Lib.hid (show k < W0.heap.size from Nat.lt_of_lt_of_le h.z1 k0.size)
  have HBR := Lib.hid (fun W (hW : Below W0.heap.size W0 W) => blk_below bR hW)
  have HK0 := Lib.hid k0
  have HW := Lib.hid hW
  obtain ⟨x0, x1, x2⟩ := h0.below k0 lbb
  have lbb0 := Nat.lt_of_lt_of_le lbb k0.size
  obtain ⟨N, hN⟩ : ∃ N, l.length = N := ⟨_, rfl⟩
  obtain ⟨q, hq⟩ : ∃ q, p.length = q := ⟨_, rfl⟩
  have Hn := Lib.hid hN
  have Hq := Lib.hid hq
  have HKK := Lib.hid hK
  obtain ⟨U1, hU1⟩ : ∃ U1, outsT p (fun _ => false) = U1 := ⟨_, rfl⟩
  have HU1 : Hid (outsT (p.drop 0) (fun _ => false) = U1) := Lib.hid hU1
  have HU1b := Lib.hid hU1
  rw [hN] at hl80 HX x1 HR
  rw [hq] at hp8 HX x2
  clear h h0 hok hN hq hK hU1 hW hnp hi0 hi1 hi2 hi3 bR k0
  go_enter Try.func61, Try.ntmps61
  go_upto_region 1 with fail
  try rw [HW.out]
  go_wp2_with (refine wpList_make_full _ rfl _ _ 103 rfl W0.heap.size 4 i0 _ 1 Try.underlying103 Hi.out Hi1.out Hi2.out _ _ _ _ N rfl rfl rfl rfl ?c1 ?c2 ?c3 ?_)
  case c1 => rw [Hi3.out]; omega
  case c2 => unfold maxLen; omega
  case c3 => exact Nat.le_refl _
  intro w1 hown hgr
  have HT0 := Lib.hid (trow_made hown)
  have HB1 : Hid (Below W0.heap.size W0 w1) := Lib.hid ((Below.refl _ _).grown hgr (Nat.le_refl _) (by intro k hk; cases hk))
  obtain ⟨g1, hg1⟩ : ∃ g1, W0.heap.size = g1 := ⟨_, rfl⟩
  have Hg1 := Lib.hid (Nat.le_of_eq hg1)
  have lg1 : w.heap.size < g1 := by omega
  have lbg : bb < g1 := by omega
  rw [hg1] at HT0 ⊢
  clear x0 x1 x2 hown hgr HW hg1 lbb0
  go_wp2
  go_loopw [4] (fun i wr => ∃ (j : Nat) (F : Nat → Bool), j ≤ q ∧ i = .int .i64 j ∧ Hid (outsT (p.drop j) F = U1) ∧ Hid (TRow wr g1 N F) ∧ Hid (Below W0.heap.size W0 wr)) (fun i _ => q - (intOf i).toNat)
  case atStart => exact ⟨0, _, by omega, rfl, HU1, HT0, HB1⟩
  case round =>
    clear HU1 HT0 HB1
    obtain ⟨jq, F, hj, rfl, hf, hT, hb⟩ := hrel
    obtain ⟨x0, x1, x2⟩ := id (HX.out wr hb.out)
    have lb2 := (HX.out wr hb.out).lt
    by_cases hlt : jq < q
    · have hlk : jq < p.length := by rw [Hq.out]; exact hlt
      have cp := (HK.out wr hb.out).p1 jq hlk
      have zk := (HK.out wr hb.out).z1
      have hr := HR.out _ (List.getElem_mem hlk)
      have hf2 := hf.out
      rw [outsT_drop hlk] at hf2
      generalize p[jq] = x at cp hr hf2
      simp only [Nat.zero_add] at cp
      obtain ⟨kx, rfl⟩ : ∃ kx : Nat, x = kx := ⟨x.toNat, by omega⟩
      rw [Int.toNat_natCast] at hf2
      have hkN : kx < N := by omega
      have HF := Lib.hid hf2
      have cb := hT.out.at_ kx hkN
      have fz := hT.out.fz kx
      have gl := hT.out.lt
      have HT2 := Lib.hid (hT.out.put (x := true) hkN)
      have HB2 := Lib.hid (kSet hb.out (p := ⟨g1, kx, none⟩) Hg1.out (.bool true))
      clear hf hf2 hT hb
      go_wp2
      exact ⟨⟨jq + 1, _, by omega, by go_num, HF, HT2, HB2⟩, by simp [intOf] <;> omega⟩
    · obtain rfl : jq = q := by omega
      obtain rfl : F = U1 := by rw [← hf.out, outsT_end (by rw [Hq.out]; exact Nat.le_refl _)]
      obtain ⟨U, hU⟩ : ∃ U, usedT l p = U := ⟨_, rfl⟩
      have HUU := Lib.hid hU
      have HU2 : Hid (backT l N F = U) := Lib.hid (by rw [← hU]; unfold usedT; rw [HU1b.out, Hn.out])
      have hwN : IntKind.i64.wrap ((N : Int) - 1) = N - 1 := IntWalk.i64_in _ (by omega)
      clear hf hU
      go_wp2
      go_loopw [5] (fun z wr => ∃ (j : Nat) (v : Int) (F : Nat → Bool), j ≤ N ∧ z = .int .i64 v ∧ v + 1 = (j : Int) ∧ Hid (backT l j F = U) ∧ Hid (TRow wr g1 N F) ∧ Hid (Below W0.heap.size W0 wr)) (fun z _ => (intOf z + 1).toNat)
      case atStart => exact ⟨N, _, F, Nat.le_refl _, rfl, by omega, HU2, hT, hb⟩
      case round =>
        clear HU2 hT hb x0 x1 x2 hwN lb2
        obtain ⟨j', v, F', hj', rfl, hv, hf, hT, hb⟩ := hrel
        obtain ⟨x0, x1, x2⟩ := id (HX.out wr hb.out)
        have lb2 := (HX.out wr hb.out).lt
        cases j' with
        | zero =>
          obtain rfl : v = -1 := by omega
          obtain rfl : F' = U := hf.out
          clear hf
          go_upto_region 12 with fail
          have gl1 := hT.out.lt
          go_wp2_with (refine wpList_make_full _ rfl _ _ 24 rfl wr.heap.size 46 j0 _ 1 Try.underlying24 Hj.out Hj1.out Hj2.out _ _ _ _ N rfl rfl rfl rfl ?c1 ?c2 ?c3 ?_)
          case c1 => rw [Hj3.out]; omega
          case c2 => unfold maxLen; omega
          case c3 => exact Nat.le_refl _
          intro w2 hown hgr
          have HS0 := Lib.hid (srow_made hown)
          have hB2 : Below wr.heap.size wr w2 := (Below.refl _ _).grown hgr (Nat.le_refl _) (by intro k hk; cases hk)
          have HT1 := Lib.hid (hT.out.below hB2)
          have HB1 := Lib.hid (kTrans hb.out hB2)
          have lg2 := HS0.out.lt
          obtain ⟨g2, hg2⟩ : ∃ g2, wr.heap.size = g2 := ⟨_, rfl⟩
          rw [hg2] at HS0 lg2 gl1 ⊢
          clear x0 x1 x2 hown hgr hg2 lb2 hT hb hB2
          obtain ⟨x0, x1, x2⟩ := id (HX.out w2 HB1.out)
          have lb2 := (HX.out w2 HB1.out).lt
          obtain ⟨W3, hW3⟩ : ∃ W3, w2.alloc (.cells #[.int .i8 (n : Int), .slice none 0 0, .slice none 0 0] 30) = W3 := ⟨_, rfl⟩
          have k3 : Below w2.heap.size w2 W3 := by rw [← hW3]; exact kAlloc (Below.refl _ _) _
          have bO : W3.heap[w2.heap.size]? = some (.cells #[.int .i8 (n : Int), .slice none 0 0, .slice none 0 0] 30 (0, 0)) := by rw [← hW3]; exact nNew _ _
          have hs3 : w2.heap.size + 1 ≤ W3.heap.size := blk_lt bO
          have HT3 := Lib.hid (HT1.out.below k3)
          have HS3 := Lib.hid (HS0.out.below k3)
          have HB3 := Lib.hid (kTrans HB1.out k3)
          have HW3 := Lib.hid hW3
          have lgO : g2 < w2.heap.size := lg2
          clear hW3
          go_upto_region 14 with fail
          try rw [HW3.out]
          obtain ⟨O, hO⟩ : ∃ O, w2.heap.size = O := ⟨_, rfl⟩
          rw [hO] at bO hs3 lgO ⊢
          have HO3 := Lib.hid bO
          have HOW3 : Hid (W3.ownsRow (O + 1) 48 3 (.slice none 0 0) ([] : List Nd).length (flatNd [])) := Lib.hid nilT_owns
          have HF3 : Hid (trimT F' (l.drop 0) 0 (fun _ => 0) [] = (P, K)) := Lib.hid (by have h := HKK.out; unfold keptT at h; rw [HUU.out] at h; exact h)
          clear x0 x1 x2 k3 bO HT1 HS0 HB1 HW3 hO lb2 lg2
          go_wp2
          go_loopw [8, 9] (fun z _ wr => ∃ (j : Nat) (Pf : Nat → Int) (Kf : List Nd) (v : Value), j ≤ N ∧ z = .int .i64 j ∧ Kf.length ≤ j ∧ Hid (trimT F' (l.drop j) j Pf Kf = (P, K)) ∧ Hid (TRow wr g1 N F') ∧ Hid (SRow wr g2 N Pf) ∧ Hid (wr.heap[O]? = some (.cells #[.int .i8 (n : Int), v, .slice none 0 0] 30 (0, 0))) ∧ Hid (wr.ownsRow (O + 1) 48 3 v Kf.length (flatNd Kf)) ∧ O + 1 ≤ wr.heap.size ∧ Hid (Below W0.heap.size W0 wr)) (fun z _ _ => N - (intOf z).toNat)
          case atStart => exact ⟨0, _, [], _, by omega, rfl, Nat.le_refl _, HF3, HT3, HS3, HO3, HOW3, hs3, HB3⟩
          case round =>
            clear HF3 HT3 HS3 HO3 HOW3 hs3 HB3
            obtain ⟨j, Pf, Kf, v, hj, rfl, hkf, hf, hT, hS, hO, hown, hsz, hb⟩ := hrel
            obtain ⟨x0, x1, x2⟩ := id (HX.out _ hb.out)
            have lb2 := (HX.out _ hb.out).lt
            rename World => wr3
            by_cases hjN : j < N
            · have hlk : j < l.length := by rw [Hn.out]; exact hjN
              have cb := hT.out.at_ j hjN
              have gl := hT.out.lt
              by_cases hu : F' j = true
              · rw [hu] at cb
                obtain ⟨x, hx⟩ : ∃ x, l[j] = x := ⟨_, rfl⟩
                obtain ⟨a0, a1, a2⟩ := (show NdAt wr3 b (0 + j * 3) x by have h := (HK.out wr3 hb.out).p0 j hlk; rw [hx] at h; exact h)
                have zb := (HK.out wr3 hb.out).z0
                have hno := HN.out j hlk
                rw [hx] at hno
                have hf2 := hf.out
                rw [trimT_yes hlk hx hu] at hf2
                obtain ⟨nd, hnd⟩ : ∃ nd, relT Pf x = nd := ⟨_, rfl⟩
                rw [hnd] at hf2
                have HF := Lib.hid hf2
                obtain ⟨xk, xa, xb⟩ := x
                simp only [Nat.zero_add] at a0 a1 a2
                obtain ⟨w5, hW5⟩ : ∃ w5, wr3.alloc (.cells #[.int .i8 xk, .int .i16 xa, .int .i16 xb] 48) = w5 := ⟨_, rfl⟩
                have k5 : Below wr3.heap.size wr3 w5 := by rw [← hW5]; exact kAlloc (Below.refl _ _) _
                have bX : w5.heap[wr3.heap.size]? = some (.cells #[.int .i8 xk, .int .i16 xa, .int .i16 xb] 48 (0, 0)) := by rw [← hW5]; exact nNew _ _
                have HTR := Lib.hid (hT.out.below k5)
                have HSR := Lib.hid (hS.out.below k5)
                have HO := Lib.hid (blk_below hO.out k5)
                have HOW := Lib.hid (owns_below hown.out k5)
                have HB := Lib.hid (kTrans hb.out k5)
                have HW5 := Lib.hid hW5
                have HK5 := Lib.hid k5
                clear hW5
                go_upto_region 19 with fail
                try rw [HW5.out]
                obtain ⟨xg, hxg⟩ : ∃ xg, wr3.heap.size = xg := ⟨_, rfl⟩
                rw [hxg] at bX hsz ⊢
                have HXB := Lib.hid bX
                have n0 : w5.cell? ⟨xg, 0, none⟩ = some (.int .i8 xk) := cell_of_row _ _ 0 _ _ _ bX
                have n1 : w5.cell? ⟨xg, 1, none⟩ = some (.int .i16 xa) := cell_of_row _ _ 1 _ _ _ bX
                have n2 : w5.cell? ⟨xg, 2, none⟩ = some (.int .i16 xb) := cell_of_row _ _ 2 _ _ _ bX
                have ln := blk_lt bX
                have hw16 : IntKind.i16.wrap (Kf.length : Int) = Kf.length := IntWalk.i16_in _ (by omega)
                clear x0 x1 x2 lb2 a0 a1 a2 zb cb gl hf hf2 k5 bX HW5 hu
                rcases nodeOk_cases hno with ⟨k0, hA, hB⟩ | ⟨k1, hA, hB⟩ | ⟨k2, hA, hB⟩
                · simp only at k0 hA hB
                  subst k0 hB
                  have hnd : (⟨0, xa, 0⟩ : Nd) = nd := by rw [← hnd]; simp [relT]
                  clear hx hno hT hS hO hown hb HK5 hxg
                  go_upto_region 22 with fail
                  clear n0 n1 n2
                  obtain ⟨va, vc, rfl⟩ := owns_slice HOW.out
                  have o1 : w5.cell? ⟨O, 1, none⟩ = some (.slice va Kf.length vc) := cell_of_row _ _ 1 _ _ _ HO.out
                  have cj := HSR.out.at_ j hjN
                  have fj := HSR.out.fz j
                  have gl2 := HSR.out.lt
                  have lO := blk_lt HO.out
                  have HS6 := Lib.hid (HSR.out.put (x := (Kf.length : Int)) hjN)
                  have HT6 := Lib.hid (HTR.out.far (p := ⟨g2, j, none⟩) (v := .int .i16 (Kf.length : Int)) (show g2 ≠ g1 by omega))
                  have HO6 := Lib.hid (blk_set (p := ⟨g2, j, none⟩) (v := .int .i16 (Kf.length : Int)) HO.out (show O ≠ g2 by omega))
                  have HX6 := Lib.hid (blk_set (p := ⟨g2, j, none⟩) (v := .int .i16 (Kf.length : Int)) HXB.out (show xg ≠ g2 by omega))
                  have HW6 := Lib.hid (owns_set_lt (B := g2) HOW.out (by omega) j (.int .i16 (Kf.length : Int)))
                  have HB6 := Lib.hid (kSet HB.out (p := ⟨g2, j, none⟩) (show W0.heap.size ≤ g2 by have := Hg1.out; omega) (.int .i16 (Kf.length : Int)))
                  have hs6 : w5.heap.size = (w5.setCell ⟨g2, j, none⟩ (.int .i16 (Kf.length : Int))).heap.size := by simp [World.setCell]
                  clear HTR HSR HO HXB HOW HB
                  go_upto_region 23 with fail
                  generalize (w5.setCell ⟨g2, j, none⟩ (.int .i16 (Kf.length : Int))) = w6 at HS6 HT6 HO6 HX6 HW6 HB6 hs6 ⊢
                  clear o1 cj fj gl2 lO
                  have o1 : w6.cell? ⟨O, 1, none⟩ = some (.slice va Kf.length vc) := cell_of_row _ _ 1 _ _ _ HO6.out
                  have y0 : w6.cell? ⟨xg, 0, none⟩ = some (.int .i8 0) := cell_of_row _ _ 0 _ _ _ HX6.out
                  have y1 : w6.cell? ⟨xg, 1, none⟩ = some (.int .i16 (xa)) := cell_of_row _ _ 1 _ _ _ HX6.out
                  have y2 : w6.cell? ⟨xg, 2, none⟩ = some (.int .i16 (0)) := cell_of_row _ _ 2 _ _ _ HX6.out
                  have lO := blk_lt HO6.out
                  have lX := blk_lt HX6.out
                  have Hblk := Lib.hid (owns_block HW6.out)
                  go_wp2_with (at_builtin; refine wpList_append_own _ rfl _ _ 28 rfl (O + 1) 48 m0 _ 3 6 Try.underlying28 Hm.out Hm1.out Hm2.out Hm3.out rfl (by decide) (.slice va Kf.length vc) Kf.length (flatNd Kf) rfl (owns_below HW6.out (by repeat (first | with_reducible exact Below.refl _ _ | (with_reducible refine kSet ?_ ?hB _; case hB => (simp; try omega)) | with_reducible refine kAlloc ?_ _ | with_reducible refine Below.drew ?_ | with_reducible refine kDrewN ?_ _ | with_reducible refine kTrans ?_ (by assumption)))) ⟨w6.heap.size, 0, none⟩ 1 1 [.int .i8 0, .int .i16 (xa), .int .i16 (0)] rfl rfl (World.news_of_block (cs := #[.int .i8 0, .int .i16 (xa), .int .i16 (0)]) (heap_alloc_new _ _)) (by simp [Value.oneCell']) ?qc4 ?qc5 ?qc6 ?_)
                  case qc4 => unfold maxLen; omega
                  case qc5 => omega
                  case qc6 => simp; omega
                  intro v7 w7 hown7 hgr hnil
                  have hne : (Value.slice va Kf.length vc).ownBlock ≠ some O := fun e => by have := (Hblk.out O e).1; omega
                  have hO7 : w7.heap[O]? = some (.cells #[.int .i8 (n : Int), .slice va Kf.length vc, .slice none 0 0] 30 (0, 0)) := (hgr.block O (by simp; omega) (fun e => hne e.symm)).trans (blk_below HO6.out (kAlloc (Below.refl _ _) _))
                  have f7 : w7.frozen? ⟨O, 1, none⟩ = false := frozen_of_row _ _ 1 _ _ hO7
                  have d7 : w7.cell? ⟨O, 1, none⟩ = some (.slice va Kf.length vc) := cell_of_row _ _ 1 _ _ _ hO7
                  have hl7 := blk_lt hO7
                  have Hown7 := Lib.hid (show w7.ownsRow (O + 1) 48 3 v7 (Kf ++ [nd]).length (flatNd (Kf ++ [nd])) by rw [flatNd_end, List.length_append, ← hnd]; exact hown7)
                  obtain ⟨M, hM⟩ : ∃ M, (Kf ++ [nd]).length = M := ⟨_, rfl⟩
                  have HM := Lib.hid hM
                  obtain ⟨ua, uc, rfl⟩ := owns_slice Hown7.out
                  rw [hM] at Hown7 ⊢
                  have B7 : Below O w6 w7 := (((kAlloc (Below.refl w6.heap.size w6) _).mono (Nat.le_of_lt lO)).grown hgr (by simp; omega) (fun k hk => by have := (Hblk.out k hk).1; omega))
                  have HT8 := Lib.hid ((HT6.out.lower B7 (show g1 < O by omega)).far (p := ⟨O, 1, none⟩) (v := (.slice ua M uc)) (show O ≠ g1 by omega))
                  have HS8 := Lib.hid ((HS6.out.lower B7 (show g2 < O by omega)).far (p := ⟨O, 1, none⟩) (v := (.slice ua M uc)) (show O ≠ g2 by omega))
                  have HO8 : Hid ((w7.setCell ⟨O, 1, none⟩ (.slice ua M uc)).heap[O]? = some (.cells #[.int .i8 (n : Int), .slice ua M uc, .slice none 0 0] 30 (0, 0))) := Lib.hid (blk_set_same' (i := 1) (v := (.slice ua M uc)) hO7)
                  have HW8 := Lib.hid (owns_set_lt (B := O) Hown7.out (by omega) 1 (.slice ua M uc))
                  have HB8 := Lib.hid (kSet (HB6.out.trans (B7.mono (by have := Hg1.out; omega))) (p := ⟨O, 1, none⟩) (show W0.heap.size ≤ O by have := Hg1.out; omega) (.slice ua M uc))
                  have hs8 : O + 1 ≤ (w7.setCell ⟨O, 1, none⟩ (.slice ua M uc)).heap.size := by simp [World.setCell]; omega
                  clear hM hown7 hgr hnil hO7 HS6 HT6 HO6 HX6 HW6 HB6 B7
                  go_wp2
                  exact ⟨⟨j + 1, _, _, _, by omega, by go_num, by simp; omega, HF, HT8, HS8, HO8, Lib.hid (by rw [HM.out]; exact HW8.out), hs8, HB8⟩, by simp [intOf] <;> omega⟩
                · simp only at k1 hA hB
                  subst k1 hA hB
                  have hnd : (⟨1, 0, 0⟩ : Nd) = nd := by rw [← hnd]; simp [relT]
                  clear hx hno hT hS hO hown hb HK5 hxg
                  go_upto_region 22 with fail
                  clear n0 n1 n2
                  obtain ⟨va, vc, rfl⟩ := owns_slice HOW.out
                  have o1 : w5.cell? ⟨O, 1, none⟩ = some (.slice va Kf.length vc) := cell_of_row _ _ 1 _ _ _ HO.out
                  have cj := HSR.out.at_ j hjN
                  have fj := HSR.out.fz j
                  have gl2 := HSR.out.lt
                  have lO := blk_lt HO.out
                  have HS6 := Lib.hid (HSR.out.put (x := (Kf.length : Int)) hjN)
                  have HT6 := Lib.hid (HTR.out.far (p := ⟨g2, j, none⟩) (v := .int .i16 (Kf.length : Int)) (show g2 ≠ g1 by omega))
                  have HO6 := Lib.hid (blk_set (p := ⟨g2, j, none⟩) (v := .int .i16 (Kf.length : Int)) HO.out (show O ≠ g2 by omega))
                  have HX6 := Lib.hid (blk_set (p := ⟨g2, j, none⟩) (v := .int .i16 (Kf.length : Int)) HXB.out (show xg ≠ g2 by omega))
                  have HW6 := Lib.hid (owns_set_lt (B := g2) HOW.out (by omega) j (.int .i16 (Kf.length : Int)))
                  have HB6 := Lib.hid (kSet HB.out (p := ⟨g2, j, none⟩) (show W0.heap.size ≤ g2 by have := Hg1.out; omega) (.int .i16 (Kf.length : Int)))
                  have hs6 : w5.heap.size = (w5.setCell ⟨g2, j, none⟩ (.int .i16 (Kf.length : Int))).heap.size := by simp [World.setCell]
                  clear HTR HSR HO HXB HOW HB
                  go_upto_region 23 with fail
                  generalize (w5.setCell ⟨g2, j, none⟩ (.int .i16 (Kf.length : Int))) = w6 at HS6 HT6 HO6 HX6 HW6 HB6 hs6 ⊢
                  clear o1 cj fj gl2 lO
                  have o1 : w6.cell? ⟨O, 1, none⟩ = some (.slice va Kf.length vc) := cell_of_row _ _ 1 _ _ _ HO6.out
                  have y0 : w6.cell? ⟨xg, 0, none⟩ = some (.int .i8 1) := cell_of_row _ _ 0 _ _ _ HX6.out
                  have y1 : w6.cell? ⟨xg, 1, none⟩ = some (.int .i16 (0)) := cell_of_row _ _ 1 _ _ _ HX6.out
                  have y2 : w6.cell? ⟨xg, 2, none⟩ = some (.int .i16 (0)) := cell_of_row _ _ 2 _ _ _ HX6.out
                  have lO := blk_lt HO6.out
                  have lX := blk_lt HX6.out
                  have Hblk := Lib.hid (owns_block HW6.out)
                  go_wp2_with (at_builtin; refine wpList_append_own _ rfl _ _ 28 rfl (O + 1) 48 m0 _ 3 6 Try.underlying28 Hm.out Hm1.out Hm2.out Hm3.out rfl (by decide) (.slice va Kf.length vc) Kf.length (flatNd Kf) rfl (owns_below HW6.out (by repeat (first | with_reducible exact Below.refl _ _ | (with_reducible refine kSet ?_ ?hB _; case hB => (simp; try omega)) | with_reducible refine kAlloc ?_ _ | with_reducible refine Below.drew ?_ | with_reducible refine kDrewN ?_ _ | with_reducible refine kTrans ?_ (by assumption)))) ⟨w6.heap.size, 0, none⟩ 1 1 [.int .i8 1, .int .i16 (0), .int .i16 (0)] rfl rfl (World.news_of_block (cs := #[.int .i8 1, .int .i16 (0), .int .i16 (0)]) (heap_alloc_new _ _)) (by simp [Value.oneCell']) ?qc4 ?qc5 ?qc6 ?_)
                  case qc4 => unfold maxLen; omega
                  case qc5 => omega
                  case qc6 => simp; omega
                  intro v7 w7 hown7 hgr hnil
                  have hne : (Value.slice va Kf.length vc).ownBlock ≠ some O := fun e => by have := (Hblk.out O e).1; omega
                  have hO7 : w7.heap[O]? = some (.cells #[.int .i8 (n : Int), .slice va Kf.length vc, .slice none 0 0] 30 (0, 0)) := (hgr.block O (by simp; omega) (fun e => hne e.symm)).trans (blk_below HO6.out (kAlloc (Below.refl _ _) _))
                  have f7 : w7.frozen? ⟨O, 1, none⟩ = false := frozen_of_row _ _ 1 _ _ hO7
                  have d7 : w7.cell? ⟨O, 1, none⟩ = some (.slice va Kf.length vc) := cell_of_row _ _ 1 _ _ _ hO7
                  have hl7 := blk_lt hO7
                  have Hown7 := Lib.hid (show w7.ownsRow (O + 1) 48 3 v7 (Kf ++ [nd]).length (flatNd (Kf ++ [nd])) by rw [flatNd_end, List.length_append, ← hnd]; exact hown7)
                  obtain ⟨M, hM⟩ : ∃ M, (Kf ++ [nd]).length = M := ⟨_, rfl⟩
                  have HM := Lib.hid hM
                  obtain ⟨ua, uc, rfl⟩ := owns_slice Hown7.out
                  rw [hM] at Hown7 ⊢
                  have B7 : Below O w6 w7 := (((kAlloc (Below.refl w6.heap.size w6) _).mono (Nat.le_of_lt lO)).grown hgr (by simp; omega) (fun k hk => by have := (Hblk.out k hk).1; omega))
                  have HT8 := Lib.hid ((HT6.out.lower B7 (show g1 < O by omega)).far (p := ⟨O, 1, none⟩) (v := (.slice ua M uc)) (show O ≠ g1 by omega))
                  have HS8 := Lib.hid ((HS6.out.lower B7 (show g2 < O by omega)).far (p := ⟨O, 1, none⟩) (v := (.slice ua M uc)) (show O ≠ g2 by omega))
                  have HO8 : Hid ((w7.setCell ⟨O, 1, none⟩ (.slice ua M uc)).heap[O]? = some (.cells #[.int .i8 (n : Int), .slice ua M uc, .slice none 0 0] 30 (0, 0))) := Lib.hid (blk_set_same' (i := 1) (v := (.slice ua M uc)) hO7)
                  have HW8 := Lib.hid (owns_set_lt (B := O) Hown7.out (by omega) 1 (.slice ua M uc))
                  have HB8 := Lib.hid (kSet (HB6.out.trans (B7.mono (by have := Hg1.out; omega))) (p := ⟨O, 1, none⟩) (show W0.heap.size ≤ O by have := Hg1.out; omega) (.slice ua M uc))
                  have hs8 : O + 1 ≤ (w7.setCell ⟨O, 1, none⟩ (.slice ua M uc)).heap.size := by simp [World.setCell]; omega
                  clear hM hown7 hgr hnil hO7 HS6 HT6 HO6 HX6 HW6 HB6 B7
                  go_wp2
                  exact ⟨⟨j + 1, _, _, _, by omega, by go_num, by simp; omega, HF, HT8, HS8, HO8, Lib.hid (by rw [HM.out]; exact HW8.out), hs8, HB8⟩, by simp [intOf] <;> omega⟩
                · simp only at k2 hA hB
                  obtain ⟨a, rfl⟩ : ∃ a : Nat, xa = a := ⟨xa.toNat, by omega⟩
                  obtain ⟨c, rfl⟩ : ∃ c : Nat, xb = c := ⟨xb.toNat, by omega⟩
                  have ha : a < N := by omega
                  have hc : c < N := by omega
                  have hnd : (⟨xk, Pf a, Pf c⟩ : Nd) = nd := by rw [← hnd]; unfold relT; rw [if_pos (by simp only; omega)]; simp
                  have ca := HSR.out.at_ a ha
                  have gl2 := HSR.out.lt
                  have hk2 : decide ((2 : Int) ≤ xk) = true := by simp; omega
                  have Hxg := Lib.hid (Nat.le_of_eq hxg)
                  have f1 : w5.frozen? ⟨xg, 1, none⟩ = false := frozen_of_row _ _ 1 _ _ HXB.out
                  have kA := Lib.hid (kSet HK5.out (p := ⟨xg, 1, none⟩) Hxg.out (.int .i16 (Pf a)))
                  have bA := Lib.hid (show (w5.setCell ⟨xg, 1, none⟩ (.int .i16 (Pf a))).heap[xg]? = some (.cells #[.int .i8 xk, .int .i16 (Pf a), .int .i16 (c : Int)] 48 (0, 0)) from blk_set_same' (i := 1) (v := .int .i16 (Pf a)) HXB.out)
                  clear hx hno HTR HSR HO HOW HB HXB HK5 hxg
                  go_upto_region 21 with fail
                  generalize (w5.setCell ⟨xg, 1, none⟩ (.int .i16 (Pf a))) = wa at kA bA ⊢
                  clear n0 n1 n2 ca gl2 f1 ln
                  have HSa := Lib.hid (hS.out.below kA.out)
                  have cc := HSa.out.at_ c hc
                  have gl2 := HSa.out.lt
                  have n1 : wa.cell? ⟨xg, 1, none⟩ = some (.int .i16 (Pf a)) := cell_of_row _ _ 1 _ _ _ bA.out
                  have n2 : wa.cell? ⟨xg, 2, none⟩ = some (.int .i16 (c : Int)) := cell_of_row _ _ 2 _ _ _ bA.out
                  have f2 : wa.frozen? ⟨xg, 2, none⟩ = false := frozen_of_row _ _ 2 _ _ bA.out
                  have ln := blk_lt bA.out
                  have kB := Lib.hid (kSet kA.out (p := ⟨xg, 2, none⟩) Hxg.out (.int .i16 (Pf c)))
                  have bB := Lib.hid (show (wa.setCell ⟨xg, 2, none⟩ (.int .i16 (Pf c))).heap[xg]? = some (.cells #[.int .i8 xk, .int .i16 (Pf a), .int .i16 (Pf c)] 48 (0, 0)) from blk_set_same' (i := 2) (v := .int .i16 (Pf c)) bA.out)
                  clear bA kA HSa
                  go_upto_region 22 with fail
                  generalize (wa.setCell ⟨xg, 2, none⟩ (.int .i16 (Pf c))) = wb at kB bB ⊢
                  clear n1 n2 cc gl2 f2 ln
                  have HTR := Lib.hid (hT.out.below kB.out)
                  have HSR := Lib.hid (hS.out.below kB.out)
                  have HO := Lib.hid (blk_below hO.out kB.out)
                  have HOW := Lib.hid (owns_below hown.out kB.out)
                  have HB := Lib.hid (kTrans hb.out kB.out)
                  have HXB := bB
                  clear hT hS hO hown hb kB bB
                  obtain ⟨va, vc, rfl⟩ := owns_slice HOW.out
                  have o1 : wb.cell? ⟨O, 1, none⟩ = some (.slice va Kf.length vc) := cell_of_row _ _ 1 _ _ _ HO.out
                  have cj := HSR.out.at_ j hjN
                  have fj := HSR.out.fz j
                  have gl2 := HSR.out.lt
                  have lO := blk_lt HO.out
                  have HS6 := Lib.hid (HSR.out.put (x := (Kf.length : Int)) hjN)
                  have HT6 := Lib.hid (HTR.out.far (p := ⟨g2, j, none⟩) (v := .int .i16 (Kf.length : Int)) (show g2 ≠ g1 by omega))
                  have HO6 := Lib.hid (blk_set (p := ⟨g2, j, none⟩) (v := .int .i16 (Kf.length : Int)) HO.out (show O ≠ g2 by omega))
                  have HX6 := Lib.hid (blk_set (p := ⟨g2, j, none⟩) (v := .int .i16 (Kf.length : Int)) HXB.out (show xg ≠ g2 by omega))
                  have HW6 := Lib.hid (owns_set_lt (B := g2) HOW.out (by omega) j (.int .i16 (Kf.length : Int)))
                  have HB6 := Lib.hid (kSet HB.out (p := ⟨g2, j, none⟩) (show W0.heap.size ≤ g2 by have := Hg1.out; omega) (.int .i16 (Kf.length : Int)))
                  have hs6 : wb.heap.size = (wb.setCell ⟨g2, j, none⟩ (.int .i16 (Kf.length : Int))).heap.size := by simp [World.setCell]
                  clear HTR HSR HO HXB HOW HB
                  go_upto_region 23 with fail
                  generalize (wb.setCell ⟨g2, j, none⟩ (.int .i16 (Kf.length : Int))) = w6 at HS6 HT6 HO6 HX6 HW6 HB6 hs6 ⊢
                  clear o1 cj fj gl2 lO
                  have o1 : w6.cell? ⟨O, 1, none⟩ = some (.slice va Kf.length vc) := cell_of_row _ _ 1 _ _ _ HO6.out
                  have y0 : w6.cell? ⟨xg, 0, none⟩ = some (.int .i8 xk) := cell_of_row _ _ 0 _ _ _ HX6.out
                  have y1 : w6.cell? ⟨xg, 1, none⟩ = some (.int .i16 (Pf a)) := cell_of_row _ _ 1 _ _ _ HX6.out
                  have y2 : w6.cell? ⟨xg, 2, none⟩ = some (.int .i16 (Pf c)) := cell_of_row _ _ 2 _ _ _ HX6.out
                  have lO := blk_lt HO6.out
                  have lX := blk_lt HX6.out
                  have Hblk := Lib.hid (owns_block HW6.out)
                  go_wp2_with (at_builtin; refine wpList_append_own _ rfl _ _ 28 rfl (O + 1) 48 m0 _ 3 6 Try.underlying28 Hm.out Hm1.out Hm2.out Hm3.out rfl (by decide) (.slice va Kf.length vc) Kf.length (flatNd Kf) rfl (owns_below HW6.out (by repeat (first | with_reducible exact Below.refl _ _ | (with_reducible refine kSet ?_ ?hB _; case hB => (simp; try omega)) | with_reducible refine kAlloc ?_ _ | with_reducible refine Below.drew ?_ | with_reducible refine kDrewN ?_ _ | with_reducible refine kTrans ?_ (by assumption)))) ⟨w6.heap.size, 0, none⟩ 1 1 [.int .i8 xk, .int .i16 (Pf a), .int .i16 (Pf c)] rfl rfl (World.news_of_block (cs := #[.int .i8 xk, .int .i16 (Pf a), .int .i16 (Pf c)]) (heap_alloc_new _ _)) (by simp [Value.oneCell']) ?qc4 ?qc5 ?qc6 ?_)
                  case qc4 => unfold maxLen; omega
                  case qc5 => omega
                  case qc6 => simp; omega
                  intro v7 w7 hown7 hgr hnil
                  have hne : (Value.slice va Kf.length vc).ownBlock ≠ some O := fun e => by have := (Hblk.out O e).1; omega
                  have hO7 : w7.heap[O]? = some (.cells #[.int .i8 (n : Int), .slice va Kf.length vc, .slice none 0 0] 30 (0, 0)) := (hgr.block O (by simp; omega) (fun e => hne e.symm)).trans (blk_below HO6.out (kAlloc (Below.refl _ _) _))
                  have f7 : w7.frozen? ⟨O, 1, none⟩ = false := frozen_of_row _ _ 1 _ _ hO7
                  have d7 : w7.cell? ⟨O, 1, none⟩ = some (.slice va Kf.length vc) := cell_of_row _ _ 1 _ _ _ hO7
                  have hl7 := blk_lt hO7
                  have Hown7 := Lib.hid (show w7.ownsRow (O + 1) 48 3 v7 (Kf ++ [nd]).length (flatNd (Kf ++ [nd])) by rw [flatNd_end, List.length_append, ← hnd]; exact hown7)
                  obtain ⟨M, hM⟩ : ∃ M, (Kf ++ [nd]).length = M := ⟨_, rfl⟩
                  have HM := Lib.hid hM
                  obtain ⟨ua, uc, rfl⟩ := owns_slice Hown7.out
                  rw [hM] at Hown7 ⊢
                  have B7 : Below O w6 w7 := (((kAlloc (Below.refl w6.heap.size w6) _).mono (Nat.le_of_lt lO)).grown hgr (by simp; omega) (fun k hk => by have := (Hblk.out k hk).1; omega))
                  have HT8 := Lib.hid ((HT6.out.lower B7 (show g1 < O by omega)).far (p := ⟨O, 1, none⟩) (v := (.slice ua M uc)) (show O ≠ g1 by omega))
                  have HS8 := Lib.hid ((HS6.out.lower B7 (show g2 < O by omega)).far (p := ⟨O, 1, none⟩) (v := (.slice ua M uc)) (show O ≠ g2 by omega))
                  have HO8 : Hid ((w7.setCell ⟨O, 1, none⟩ (.slice ua M uc)).heap[O]? = some (.cells #[.int .i8 (n : Int), .slice ua M uc, .slice none 0 0] 30 (0, 0))) := Lib.hid (blk_set_same' (i := 1) (v := (.slice ua M uc)) hO7)
                  have HW8 := Lib.hid (owns_set_lt (B := O) Hown7.out (by omega) 1 (.slice ua M uc))
                  have HB8 := Lib.hid (kSet (HB6.out.trans (B7.mono (by have := Hg1.out; omega))) (p := ⟨O, 1, none⟩) (show W0.heap.size ≤ O by have := Hg1.out; omega) (.slice ua M uc))
                  have hs8 : O + 1 ≤ (w7.setCell ⟨O, 1, none⟩ (.slice ua M uc)).heap.size := by simp [World.setCell]; omega
                  clear hM hown7 hgr hnil hO7 HS6 HT6 HO6 HX6 HW6 HB6 B7
                  go_wp2
                  exact ⟨⟨j + 1, _, _, _, by omega, by go_num, by simp; omega, HF, HT8, HS8, HO8, Lib.hid (by rw [HM.out]; exact HW8.out), hs8, HB8⟩, by simp [intOf] <;> omega⟩
              · have hu2 : F' j = false := by simpa using hu
                rw [hu2] at cb
                have HF : Hid (trimT F' (l.drop (j + 1)) (j + 1) Pf Kf = (P, K)) := Lib.hid (by have h := hf.out; rw [trimT_no hlk hu] at h; exact h)
                clear hf hu hu2
                go_wp2
                exact ⟨⟨j + 1, _, _, _, by omega, by go_num, by omega, HF, hT, hS, hO, hown, hsz, hb⟩, by simp [intOf] <;> omega⟩
            · obtain rfl : j = N := by omega
              obtain ⟨rfl, rfl⟩ : Pf = P ∧ Kf = K := by have h := hf.out; rw [trimT_end (by rw [Hn.out]; exact Nat.le_refl _)] at h; injection h with h1 h2; exact ⟨h1, h2⟩
              obtain ⟨va, vc, rfl⟩ := owns_slice hown.out
              have HND0 := Lib.hid (SlWNd.of_owns hown.out)
              have HS4 : Hid (SRow wr3 g2 j Pf) := hS
              have HO4 := hO
              have HB4 := hb
              have gO2 : g2 < O := lgO
              have lOmid : O < wr3.heap.size := blk_lt hO.out
              obtain ⟨mid, hmid⟩ : ∃ mid, wr3.heap.size = mid := ⟨_, rfl⟩
              have Hmid := Lib.hid (Nat.le_of_eq hmid.symm)
              rw [hmid] at HND0 lOmid
              obtain ⟨L, hL⟩ : ∃ L, pickP Pf p = L := ⟨_, rfl⟩
              have HL0 : Hid (([] : List Int) ++ pickP Pf (p.drop 0) = L) := Lib.hid hL
              have HLL := Lib.hid hL
              have HOW4 : Hid (wr3.ownsRow mid 46 1 (.slice none 0 0) ([] : List Int).length (flatSh [])) := Lib.hid nilT_owns
              clear hf hT hS hO hown hb hmid hL
              go_wp2
              go_loopw [10] (fun z wr => ∃ (i : Nat) (A : List Int) (u : Value), i ≤ jq ∧ z = .int .i64 i ∧ A.length ≤ i ∧ Hid (A ++ pickP Pf (p.drop i) = L) ∧ Hid (SRow wr g2 j Pf) ∧ Hid (wr.heap[O]? = some (.cells #[.int .i8 (n : Int), .slice va Kf.length vc, u] 30 (0, 0))) ∧ Hid (SlWNd (O + 1) mid wr Kf (.slice va Kf.length vc)) ∧ Hid (wr.ownsRow mid 46 1 u A.length (flatSh A)) ∧ Hid (mid ≤ wr.heap.size) ∧ Hid (Below W0.heap.size W0 wr)) (fun z _ => jq - (intOf z).toNat)
              case atStart => exact ⟨0, [], _, by omega, rfl, Nat.le_refl _, HL0, HS4, HO4, HND0, HOW4, Hmid, HB4⟩
              case round =>
                clear HL0 HS4 HO4 HND0 HOW4 Hmid HB4 x0 x1 x2 lb2
                rename World => wr4
                obtain ⟨i, A, u, hi, rfl, hA, hf, hS, hO, hND, hown, hmd, hb⟩ := hrel
                obtain ⟨x0, x1, x2⟩ := id (HX.out _ hb.out)
                have lb2 := (HX.out _ hb.out).lt
                by_cases hiq : i < jq
                · have hlk : i < p.length := by rw [Hq.out]; exact hiq
                  have cp := (HK.out wr4 hb.out).p1 i hlk
                  have zk := (HK.out wr4 hb.out).z1
                  have hr := HR.out _ (List.getElem_mem hlk)
                  have hf2 := hf.out
                  rw [show pickP Pf (p.drop i) = Pf (p[i]).toNat :: pickP Pf (p.drop (i + 1)) by rw [List.drop_eq_getElem_cons hlk]; rfl] at hf2
                  generalize p[i] = x at cp hr hf2
                  simp only [Nat.zero_add] at cp
                  obtain ⟨kx, rfl⟩ : ∃ kx : Nat, x = kx := ⟨x.toNat, by omega⟩
                  rw [Int.toNat_natCast] at hf2
                  have hkj : kx < j := by omega
                  have HF : Hid ((A ++ [Pf kx]) ++ pickP Pf (p.drop (i + 1)) = L) := Lib.hid (by rw [← hf2]; simp)
                  obtain ⟨ta, tc, rfl⟩ := owns_slice hown.out
                  have cs := hS.out.at_ kx hkj
                  have gl2 := hS.out.lt
                  have o2 : wr4.cell? ⟨O, 2, none⟩ = some (.slice ta A.length tc) := cell_of_row _ _ 2 _ _ _ hO.out
                  have lO := blk_lt hO.out
                  clear hf hf2
                  have gx2 := lb2
                  have lO := blk_lt hO.out
                  have Hblk := Lib.hid (owns_block hown.out)
                  have hbb := Lib.hid (show bb < mid by omega)
                  have hkm := Lib.hid (show k < mid by have h1 := HKZ.out; have := Hg1.out; omega)
                  have hmd2 := hmd.out
                  go_wp2
                  have HD := Lib.hid (show Below wr4.heap.size wr4 (wr4.alloc (.cells #[.int .i16 (Pf kx)] 46)).drew from Below.drew (kAlloc (Below.refl _ _) _))
                  have hbX := Nat.le_trans hmd2 HD.out.size
                  have hml : A.length + 1 ≤ maxLen := by unfold maxLen; omega
                  have hmb : (A.length + 1) * 2 ≤ 140737488355328 := by omega
                  go_region_law
                    (first
                    | (refine step_append_own rfl _ _ 24 rfl mid 46 j0 _ 1 2 Try.underlying24 Hj.out Hj1.out Hj2.out Hj3.out rfl (by decide) (.slice ta A.length tc) A.length (flatSh A) rfl (owns_below hown.out HD.out) ⟨wr4.heap.size, 0, none⟩ 1 1 [.int .i16 (Pf kx)] rfl rfl (fun j u hu => World.news_of_block (w := (wr4.alloc (.cells #[.int .i16 (Pf kx)] 46)).drew) (cs := #[.int .i16 (Pf kx)]) (heap_alloc_new wr4 _) j u hu) (by simp [Value.oneCell']) hml hmb hbX ?_
                       intro v7 w7 hown7 hgr hnil
                       have hne : (Value.slice ta A.length tc).ownBlock ≠ some O := fun e => by have := (Hblk.out O e).1; omega
                       have hO7 : w7.heap[O]? = some (.cells #[.int .i8 (n : Int), .slice va Kf.length vc, .slice ta A.length tc] 30 (0, 0)) := (hgr.block O (Nat.lt_of_lt_of_le lO HD.out.size) (fun e => hne e.symm)).trans (blk_below hO.out HD.out)
                       have HO7 := Lib.hid hO7
                       have hown7' : w7.ownsRow mid 46 1 v7 (A ++ [Pf kx]).length (flatSh (A ++ [Pf kx])) := by rw [flatSh_end, List.length_append]; exact hown7
                       have B7 : Below mid wr4 w7 := ((HD.out.mono hmd2).grown hgr hbX (fun q hq => (Hblk.out q hq).1))
                       have o2 : w7.cell? ⟨O, 2, none⟩ = some (.slice ta A.length tc) := cell_of_row _ _ 2 _ _ _ hO7
                       have x2 : w7.cell? ⟨bb, 2, none⟩ = some (.slice (some ⟨k, 0, none⟩) jq ck) := (B7.cell (p := ⟨bb, 2, none⟩) hbb.out).trans x2
                       have cp : w7.cell? ⟨k, i, none⟩ = some (.int .i16 (kx : Int)) := (B7.cell (p := ⟨k, i, none⟩) hkm.out).trans cp
                       have cs : w7.cell? ⟨g2, kx, none⟩ = some (.int .i16 (Pf kx)) := (B7.cell (p := ⟨g2, kx, none⟩) (show g2 < mid by omega)).trans cs
                       have f7 : w7.frozen? ⟨O, 2, none⟩ = false := frozen_of_row _ _ 2 _ _ hO7
                       have hl7 := blk_lt hO7
                       obtain ⟨M, hM⟩ : ∃ M, (A ++ [Pf kx]).length = M := ⟨_, rfl⟩
                       have HM := Lib.hid hM
                       obtain ⟨ua, uc, rfl⟩ := owns_slice hown7'
                       rw [hM] at hown7' ⊢
                       have Hown7 := Lib.hid hown7'
                       have HB7 := Lib.hid B7
                       clear hown7 hgr hnil hO7 hown7' B7 hM hne))
                  all_goals
                    have HS8 := Lib.hid ((hS.out.lower HB7.out (show g2 < mid by omega)).far (p := ⟨O, 2, none⟩) (v := .slice ua M uc) (show O ≠ g2 by omega))
                    have HO8 := Lib.hid (show (w7.setCell ⟨O, 2, none⟩ (.slice ua M uc)).heap[O]? = some (.cells #[.int .i8 (n : Int), .slice va Kf.length vc, .slice ua M uc] 30 (0, 0)) from blk_set_same' (i := 2) (v := .slice ua M uc) HO7.out)
                    have HND8 := Lib.hid ((hND.out.out (lo2 := mid) (hi2 := wr4.heap.size) (w' := w7) ⟨HB7.out.os, HB7.out.tape, HB7.out.output, HB7.out.size, fun q hq ho => HB7.out.block q (by omega)⟩ (.inl (Nat.le_refl _))).out (KeptOut.set (lo := O) (hi := O + 1) (KeptOut.of_below (Below.refl _ _)) ⟨O, 2, none⟩ (Nat.le_refl _) (Nat.lt_succ_self _) (.slice ua M uc)) (.inr (Nat.le_refl _)))
                    have HW8 := Lib.hid (owns_set_lt (B := O) Hown7.out (by omega) 2 (.slice ua M uc))
                    have HB8 := Lib.hid (kSet (hb.out.trans (HB7.out.mono (by have := Hg1.out; omega))) (p := ⟨O, 2, none⟩) (show W0.heap.size ≤ O by have := Hg1.out; omega) (.slice ua M uc))
                    have hm8 : Hid (mid ≤ (w7.setCell ⟨O, 2, none⟩ (.slice ua M uc)).heap.size) := Lib.hid (by have := HB7.out.size; simp [World.setCell]; omega)
                    clear hS hO hown hND hb hmd hmd2 gl2 lO cp cs zk x0 x1 x2 lb2 gx2 o2 f7 hl7
                    go_wp2
                    exact ⟨⟨i + 1, _, _, by omega, by go_num, by simp; omega, HF, HS8, HO8, HND8, Lib.hid (by rw [HM.out]; exact HW8.out), hm8, HB8⟩, by simp [intOf] <;> omega⟩
                · obtain rfl : i = jq := by omega
                  obtain rfl : A = L := by have h := hf.out; rw [List.drop_of_length_le (by rw [Hq.out]; exact Nat.le_refl _)] at h; simpa [pickP] using h
                  obtain ⟨ta, tc, rfl⟩ := owns_slice hown.out
                  have rs_ := HBR.out wr4 hb.out
                  have o0 : wr4.cell? ⟨O, 0, none⟩ = some (.int .i8 (n : Int)) := cell_of_row _ _ 0 _ _ _ hO.out
                  have o1 : wr4.cell? ⟨O, 1, none⟩ = some (.slice va Kf.length vc) := cell_of_row _ _ 1 _ _ _ hO.out
                  have o2 : wr4.cell? ⟨O, 2, none⟩ = some (.slice ta A.length tc) := cell_of_row _ _ 2 _ _ _ hO.out
                  have lO := blk_lt hO.out
                  have r0 : wr4.cell? ⟨w.heap.size, 0, none⟩ = some (.int .i8 0) := cell_of_row _ _ 0 _ _ _ rs_
                  have r1 : wr4.cell? ⟨w.heap.size, 1, none⟩ = some (.slice none 0 0) := cell_of_row _ _ 1 _ _ _ rs_
                  have r2 : wr4.cell? ⟨w.heap.size, 2, none⟩ = some (.slice none 0 0) := cell_of_row _ _ 2 _ _ _ rs_
                  have q0 : wr4.frozen? ⟨w.heap.size, 0, none⟩ = false := frozen_of_row _ _ 0 _ _ rs_
                  have q1 : wr4.frozen? ⟨w.heap.size, 1, none⟩ = false := frozen_of_row _ _ 1 _ _ rs_
                  have q2 : wr4.frozen? ⟨w.heap.size, 2, none⟩ = false := frozen_of_row _ _ 2 _ _ rs_
                  have lr_ := blk_lt rs_
                  have HR3 := Lib.hid (box3_set (x' := .int .i8 (n : Int)) (y' := .slice va Kf.length vc) (z' := .slice ta A.length tc) rs_)
                  have hkr : KeptOut w.heap.size (w.heap.size + 1) wr4 (((wr4.setCell ⟨w.heap.size, 0, none⟩ (.int .i8 (n : Int))).setCell ⟨w.heap.size, 1, none⟩ (.slice va Kf.length vc)).setCell ⟨w.heap.size, 2, none⟩ (.slice ta A.length tc)) :=
                    (((KeptOut.of_below (Below.refl _ _)).set ⟨w.heap.size, 0, none⟩ (Nat.le_refl _) (Nat.lt_succ_self _) _).set ⟨w.heap.size, 1, none⟩ (Nat.le_refl _) (Nat.lt_succ_self _) _).set ⟨w.heap.size, 2, none⟩ (Nat.le_refl _) (Nat.lt_succ_self _) _
                  have HN1 := Lib.hid ((hND.out.out hkr (.inr (by omega))).mono (show w.heap.size ≤ O + 1 by omega) (Nat.le_refl mid))
                  have HN2 := Lib.hid (((SlWSh.of_owns hown.out).out hkr (.inr (by omega))).mono (Nat.le_refl mid) hkr.size)
                  have HBB := Lib.hid (kSet (kSet (kSet (kTrans HK0.out hb.out) (p := ⟨w.heap.size, 0, none⟩) (Nat.le_refl _) (.int .i8 (n : Int))) (p := ⟨w.heap.size, 1, none⟩) (Nat.le_refl _) (.slice va Kf.length vc)) (p := ⟨w.heap.size, 2, none⟩) (Nat.le_refl _) (.slice ta A.length tc))
                  have hmd2 := Nat.le_trans hmd.out hkr.size
                  clear hf hS hO hND hown hb hkr hmd rs_
                  go_wp2
                  refine bodyPost_ret (v := .agg #[.int .i8 (n : Int), .slice va Kf.length vc, .slice ta A.length tc]) (results_cell_row rfl _ _ (w.heap.size) 30 #[.int .i8 (n : Int), .slice va Kf.length vc, .slice ta A.length tc] (0, 0) _ rfl HR3.out Try.underlying30 rfl (by kernel_rfl)) rfl ?_
                  exact ⟨_, _, rfl, .mk mid _ _ (by omega) hmd2 HN1.out (by rw [HLL.out]; exact HN2.out), HBB.out⟩
        | succ i =>
          obtain rfl : v = (i : Int) := by omega
          have hiN : i < N := by omega
          have hlk : i < l.length := by rw [Hn.out]; exact hiN
          obtain ⟨x, hx⟩ : ∃ x, l[i] = x := ⟨_, rfl⟩
          have Hnd := Lib.hid (fun W (hW : Below W0.heap.size W0 W) => by have h := (HK.out W hW).p0 i hlk; rw [hx] at h; exact h)
          obtain ⟨a0, a1, a2⟩ := Hnd.out wr hb.out
          have hno := HN.out i hlk
          rw [hx] at hno
          have Hxx := Lib.hid hx
          have zb := (HK.out wr hb.out).z0
          obtain ⟨xk, xa, xb⟩ := x
          simp only [Nat.zero_add] at a0 a1 a2
          have cb := hT.out.at_ i hiN
          have fz := hT.out.fz i
          have gl := hT.out.lt
          by_cases hu : F' i = true
          · rw [hu] at cb
            rcases nodeOk_cases hno with ⟨k0, hA, hB⟩ | ⟨k1, hA, hB⟩ | ⟨k2, hA, hB⟩
            · simp only at k0 hA hB
              subst k0
              have HF : Hid (backT l i F' = U) := Lib.hid (by have h := hf.out; rw [backT_not hlk Hxx.out (by simp)] at h; exact h)
              clear hf hx hno
              go_wp2
              exact ⟨⟨i, _, _, by omega, by go_num, by omega, HF, hT, hb⟩, by simp [intOf] <;> omega⟩
            · simp only at k1 hA hB
              subst k1
              have HF : Hid (backT l i F' = U) := Lib.hid (by have h := hf.out; rw [backT_not hlk Hxx.out (by simp)] at h; exact h)
              clear hf hx hno
              go_wp2
              exact ⟨⟨i, _, _, by omega, by go_num, by omega, HF, hT, hb⟩, by simp [intOf] <;> omega⟩
            · simp only at k2 hA hB
              obtain ⟨a, rfl⟩ : ∃ a : Nat, xa = a := ⟨xa.toNat, by omega⟩
              obtain ⟨c, rfl⟩ : ∃ c : Nat, xb = c := ⟨xb.toNat, by omega⟩
              have ha : a < N := by omega
              have hc : c < N := by omega
              have HF : Hid (backT l i (putF (putF F' a true) c true) = U) := Lib.hid (by have h := hf.out; rw [backT_use hlk Hxx.out hu (by simp only; omega)] at h; exact h)
              have ca := hT.out.at_ a ha
              have fa := hT.out.fz a
              have HT2 := Lib.hid (hT.out.put (x := true) ha)
              have HB2 := Lib.hid (kSet hb.out (p := ⟨g1, a, none⟩) Hg1.out (.bool true))
              have hk2 : decide ((2 : Int) ≤ xk) = true := by simp; omega
              clear hf hx hno hT hb
              go_upto_region 11 with fail
              generalize (wr.setCell ⟨g1, a, none⟩ (.bool true)) = w3 at HT2 HB2 ⊢
              clear x0 x1 x2 lb2 a0 a1 a2 zb cb fz gl ca fa
              obtain ⟨x0, x1, x2⟩ := id (HX.out w3 HB2.out)
              have lb2 := (HX.out w3 HB2.out).lt
              obtain ⟨a0, a1, a2⟩ := Hnd.out w3 HB2.out
              simp only [Nat.zero_add] at a0 a1 a2
              have zb := (HK.out w3 HB2.out).z0
              have cc := HT2.out.at_ c hc
              have fc := HT2.out.fz c
              have gl := HT2.out.lt
              have HT3 := Lib.hid (HT2.out.put (x := true) hc)
              have HB3 := Lib.hid (kSet HB2.out (p := ⟨g1, c, none⟩) Hg1.out (.bool true))
              clear HT2 HB2 hu
              go_wp2
              exact ⟨⟨i, _, _, by omega, by go_num, by omega, HF, HT3, HB3⟩, by simp [intOf] <;> omega⟩
          · have hu2 : F' i = false := by simpa using hu
            rw [hu2] at cb
            have HF : Hid (backT l i F' = U) := Lib.hid (by have h := hf.out; rw [backT_not hlk Hxx.out (fun e => hu e.1)] at h; exact h)
            clear hf hx hno hu hu2
            go_wp2
            exact ⟨⟨i, _, _, by omega, by go_num, by omega, HF, hT, hb⟩, by simp [intOf] <;> omega⟩
end Go.Proofs.Ytdnjamlibnmpfaa
