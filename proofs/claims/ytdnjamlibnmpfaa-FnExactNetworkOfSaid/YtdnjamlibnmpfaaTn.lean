/- TrimNetwork, both sides. -/
import Derived.Test.YtdnjamlibnmpfaaTr
import Derived.Test.YtdnjamlibnmpfaaNdd
namespace Go.Proofs.Ytdnjamlibnmpfaa
open Go.ChangeShapes Go.WideShapes Go.ChangeAt Go.RowKit Go.Joins Go.Deep
set_option linter.unusedVariables false
set_option linter.unusedSimpArgs false
def onlyNN (Q : Exit → Act → World → Prop) (e : Exit) (a : Act) (w : World) : Prop := e = .normal ∧ Q .normal a w
theorem regionW_of_HN {id : Nat} {P : Program} {ops : Array Oper} {Q : Exit → Act → World → Prop} {a : Act} {w : World} (S : World → Prop) (hm : P.follows .mixedOrders = true)
    (hS : S w.drew) (h : S w.drew → wpAnyH P .any ops (onlyNN Q) S ops.size (Array.replicate ops.size false) a w.drew) : (Code.region id ops true).wp P Q a w :=
  wp_mono (wp_region_any hm (wpAny_of_held _ _ _ _ (h hS))) (fun e a w hq => by obtain ⟨rfl, hq⟩ := hq; exact hq)
theorem relinked_any (ni : Int) (m g N cap : Nat) (x : Nd) (P : Nat → Int) (w : World) (hx : nodeOk ni m x = true) (hS : SRow w g N P) (hm : m ≤ N) (hN : N ≤ 1000) (hcap : N ≤ cap) :
    Calls Try.prog 26 #[.agg #[.int .i8 x.kind, .int .i16 x.a, .int .i16 x.b], .slice (some ⟨g, 0, none⟩) N cap] w fun e w' => e = .returned (.agg #[.int .i8 (relT P x).kind, .int .i16 (relT P x).a, .int .i16 (relT P x).b]) ∧ Below w.heap.size w w' := by
  by_cases h2 : x.kind = 2 ∨ x.kind = 3
  · have e : relT P x = ⟨x.kind, P x.a.toNat, P x.b.toNat⟩ := by unfold relT; rw [if_pos (by omega)]
    obtain ⟨xk, xa, xb⟩ := x
    have hab := nodeOk_cases hx
    simp only at h2 e hab
    obtain ⟨a, rfl⟩ : ∃ a : Nat, xa = a := ⟨xa.toNat, by omega⟩
    obtain ⟨c, rfl⟩ : ∃ c : Nat, xb = c := ⟨xb.toNat, by omega⟩
    rw [e]
    simp only [Int.toNat_natCast]
    exact relinked_yes xk a c g N cap P w h2 hS (by omega) (by omega) hN hcap
  · have e : relT P x = x := by unfold relT; rw [if_neg (by rcases nodeOk_cases hx with h | h | h <;> omega)]
    rw [e]
    exact relinked_no x _ w h2
set_option maxRecDepth 100000 in
set_option maxHeartbeats 16000000 in
theorem trimmed_any (b k n cb ck : Nat) (l : List Nd) (p : List Int) (w : World) (h : NK w b k l p) (hok : netOk n l p = true) (P : Nat → Int) (K : List Nd) (hK : keptT l p = (P, K)) :
    Calls Try.prog 64 #[.agg #[.int .i8 n, .slice (some ⟨b, 0, none⟩) l.length cb, .slice (some ⟨k, 0, none⟩) p.length ck]] w fun e w' => ∃ v u, e = .returned (.agg #[.int .i8 n, v, u]) ∧ NwR w.heap.size w'.heap.size w' K (pickP P p) v u ∧ Below w.heap.size w w' := by
  have hnp := netOk_parts hok
  have hl80 : 1 ≤ l.length ∧ l.length ≤ 80 := by omega
  have hp8 : 1 ≤ p.length ∧ p.length ≤ 8 := by omega
  have HR := Lib.hid (outsOkN_all hnp.2.2.2.2)
  have HN := Lib.hid (fun i (hi : i < l.length) => netOk_node hok i hi)
  obtain ⟨U, hU⟩ : ∃ U, usedT l p = U := ⟨_, rfl⟩
  have HND := Lib.hid (fun W (hW : Below w.heap.size w W) => needed_any b k n cb ck l p W (h.below hW) hok U hU)
  have HF0 : Hid (trimT U (l.drop 0) 0 (fun _ => 0) [] = (P, K)) := Lib.hid (by unfold keptT at hK; rw [hU] at hK; exact hK)
  obtain ⟨j0, hj0, hj1, hj2, hj3⟩ := info_parts info_i16n
  have Hj := Lib.hid hj0
  have Hj1 := Lib.hid hj1
  have Hj2 := Lib.hid hj2
  have Hj3 := Lib.hid hj3
  obtain ⟨N, hN⟩ : ∃ N, l.length = N := ⟨_, rfl⟩
  obtain ⟨q, hq⟩ : ∃ q, p.length = q := ⟨_, rfl⟩
  have Hn := Lib.hid hN
  have Hq := Lib.hid hq
  rw [hN] at hl80 HR HND ⊢
  rw [hq] at hp8 HND ⊢
  obtain ⟨W0, hW⟩ : ∃ W0, (w.alloc (.cells #[.int .i8 n, .slice (some ⟨b, 0, none⟩) N cb, .slice (some ⟨k, 0, none⟩) q ck] 30)).alloc (.cells #[.int .i8 0, .slice none 0 0, .slice none 0 0] 30) = W0 := ⟨_, rfl⟩
  have k0 : Below w.heap.size w W0 := by rw [← hW]; exact kAlloc (kAlloc (Below.refl _ _) _) _
  have bX : W0.heap[w.heap.size]? = some (.cells #[.int .i8 n, .slice (some ⟨b, 0, none⟩) N cb, .slice (some ⟨k, 0, none⟩) q ck] 30 (0, 0)) := by rw [← hW]; exact (Below.heap_alloc _ _ _ (by simp)).trans (heap_alloc_new _ _)
  have bR : W0.heap[w.heap.size + 1]? = some (.cells #[.int .i8 0, .slice none 0 0, .slice none 0 0] 30 (0, 0)) := by rw [← hW]; exact heap_two _ _ _
  have lw := blk_lt bR
  have HBX := Lib.hid (fun W (hW : Below W0.heap.size W0 W) => blk_below bX hW)
  have HBR := Lib.hid (fun W (hW : Below W0.heap.size W0 W) => blk_below bR hW)
  have HK := Lib.hid (fun W (hW : Below W0.heap.size W0 W) => h.below (kTrans k0 hW))
  have HK0 := Lib.hid k0
  have HW := Lib.hid hW
  obtain ⟨x0, x1, x2⟩ := NwAt.of bX
  clear h hok hN hq hU hW hnp hj0 hj1 hj2 hj3 bX bR k0 hK
  go_enter Try.func64, Try.ntmps64
  go_upto_region 1 with fail
  try rw [HW.out]
  go_wp2_with fail
  refine (HND.out _ HK0.out).mono ?_
  rintro e w1 ⟨g1, rfl, hg1, hT, hb1⟩
  have HT1 := Lib.hid hT
  have HB1 := Lib.hid hb1
  have y0 := HBX.out w1 hb1
  have lz := hb1.size
  clear x0 x1 x2 HND hT hb1 HW
  obtain ⟨x0, x1, x2⟩ := NwAt.of y0
  have ly := blk_lt y0
  have lg1 := HT1.out.lt
  clear y0
  go_wp2_with (refine wpList_make_full _ rfl _ _ 24 rfl w1.heap.size 46 j0 _ 1 Try.underlying24 Hj.out Hj1.out Hj2.out _ _ _ _ N rfl rfl rfl rfl ?c1 ?c2 ?c3 ?_)
  case c1 => rw [Hj3.out]; omega
  case c2 => unfold maxLen; omega
  case c3 => exact Nat.le_refl _
  intro w2 hown hgr
  have HS2 := Lib.hid (srow_made hown)
  have hB2 : Below w1.heap.size w1 w2 := (Below.refl _ _).grown hgr (Nat.le_refl _) (by intro k hk; cases hk)
  have HT2 := Lib.hid (HT1.out.below hB2)
  have HB2 := Lib.hid (kTrans HB1.out hB2)
  have lg2 := HS2.out.lt
  have y0 := HBX.out w2 HB2.out
  have hgw : W0.heap.size ≤ g1 := hg1
  obtain ⟨g2, hg2⟩ : ∃ g2, w1.heap.size = g2 := ⟨_, rfl⟩
  have Hg2 := Lib.hid (show W0.heap.size ≤ g2 by omega)
  rw [hg2] at HS2 lg2 lg1 ⊢
  clear x0 x1 x2 hown hgr hg2 hB2 HT1 HB1 ly lz
  obtain ⟨x0, x1, x2⟩ := NwAt.of y0
  have ly := blk_lt y0
  clear y0
  obtain ⟨W3, hW3⟩ : ∃ W3, w2.alloc (.cells #[.slice none 0 0] 52) = W3 := ⟨_, rfl⟩
  have k3 : Below w2.heap.size w2 W3 := by rw [← hW3]; exact kAlloc (Below.refl _ _) _
  have bO : W3.heap[w2.heap.size]? = some (.cells #[.slice none 0 0] 52 (0, 0)) := by rw [← hW3]; exact heap_alloc_new _ _
  have hs3 : w2.heap.size + 1 ≤ W3.heap.size := blk_lt bO
  have HT3 := Lib.hid (HT2.out.below k3)
  have HS3 := Lib.hid (HS2.out.below k3)
  have HB3 := Lib.hid (kTrans HB2.out k3)
  have HW3 := Lib.hid hW3
  have y0 := HBX.out W3 HB3.out
  clear x0 x1 x2 ly
  obtain ⟨x0, x1, x2⟩ := NwAt.of y0
  have ly := blk_lt y0
  clear y0 hW3
  go_upto_region 4 with fail
  try rw [HW3.out]
  obtain ⟨O, hO⟩ : ∃ O, w2.heap.size = O := ⟨_, rfl⟩
  rw [hO] at bO hs3 lg2 ⊢
  have HO3 := Lib.hid bO
  have HOW3 : Hid (W3.ownsRow (O + 1) 48 3 (.slice none 0 0) ([] : List Nd).length (flatNd [])) := Lib.hid nilT_owns
  clear k3 bO HT2 HS2 HB2 HW3 hO
  go_wp2
  go_loopw [6, 7, 17] (fun _ _ z wr => ∃ (j : Nat) (Pf : Nat → Int) (Kf : List Nd) (v : Value), j ≤ N ∧ z = .int .i64 j ∧ Kf.length ≤ j ∧ Hid (trimT U (l.drop j) j Pf Kf = (P, K)) ∧ Hid (TRow wr g1 N U) ∧ Hid (SRow wr g2 N Pf) ∧ Hid (wr.heap[O]? = some (.cells #[v] 52 (0, 0))) ∧ Hid (wr.ownsRow (O + 1) 48 3 v Kf.length (flatNd Kf)) ∧ O + 1 ≤ wr.heap.size ∧ Hid (Below W0.heap.size W0 wr)) (fun _ _ z _ => N - (intOf z).toNat)
  case atStart => exact ⟨0, _, [], _, by omega, rfl, Nat.le_refl _, HF0, HT3, HS3, HO3, HOW3, hs3, HB3⟩
  case round =>
    clear HF0 HT3 HS3 HO3 HOW3 hs3 HB3 x0 x1 x2 ly
    obtain ⟨j, Pf, Kf, v, hj, rfl, hkf, hf, hT, hS, hO, hown, hsz, hb⟩ := hrel
    rename World => wr3
    by_cases hjN : j < N
    · have hlk : j < l.length := by rw [Hn.out]; exact hjN
      have cb := hT.out.at_ j hjN
      have gl := hT.out.lt
      obtain ⟨x, hx⟩ : ∃ x, l[j] = x := ⟨_, rfl⟩
      obtain ⟨a0, a1, a2⟩ := (show NdAt wr3 b (0 + j * 3) x by have h := (HK.out wr3 hb.out).p0 j hlk; rw [hx] at h; exact h)
      have zb := (HK.out wr3 hb.out).z0
      have hno := HN.out j hlk
      rw [hx] at hno
      simp only [Nat.zero_add] at a0 a1 a2
      obtain ⟨w5, hW5⟩ : ∃ w5, wr3.alloc (.cells #[.int .i8 x.kind, .int .i16 x.a, .int .i16 x.b] 48) = w5 := ⟨_, rfl⟩
      have k5 : Below wr3.heap.size wr3 w5 := by rw [← hW5]; exact kAlloc (Below.refl _ _) _
      have bX : w5.heap[wr3.heap.size]? = some (.cells #[.int .i8 x.kind, .int .i16 x.a, .int .i16 x.b] 48 (0, 0)) := by rw [← hW5]; exact nNew _ _
      have HT5 := Lib.hid (hT.out.below k5)
      have HS5 := Lib.hid (hS.out.below k5)
      have HO5 := Lib.hid (blk_below hO.out k5)
      have HOW5 := Lib.hid (owns_below hown.out k5)
      have HB5 := Lib.hid (kTrans hb.out k5)
      have HW5 := Lib.hid hW5
      have Hno := Lib.hid hno
      have Hx := Lib.hid hx
      have hz5 : O + 1 ≤ w5.heap.size := Nat.le_trans hsz k5.size
      clear hW5 hx hno k5 hS hO hown hb hT
      go_upto_region 7 with fail
      try rw [HW5.out]
      obtain ⟨xg, hxg⟩ : ∃ xg, wr3.heap.size = xg := ⟨_, rfl⟩
      rw [hxg] at bX hsz ⊢
      have n0 : w5.cell? ⟨xg, 0, none⟩ = some (.int .i8 x.kind) := cell_of_row _ _ 0 _ _ _ bX
      have n1 : w5.cell? ⟨xg, 1, none⟩ = some (.int .i16 x.a) := cell_of_row _ _ 1 _ _ _ bX
      have n2 : w5.cell? ⟨xg, 2, none⟩ = some (.int .i16 x.b) := cell_of_row _ _ 2 _ _ _ bX
      have ln := blk_lt bX
      clear a0 a1 a2 zb cb gl bX HW5 hxg
      have cb := HT5.out.at_ j hjN
      have gl := HT5.out.lt
      by_cases hu : U j = true
      · rw [hu] at cb
        have hf2 := hf.out
        rw [trimT_yes hlk Hx.out hu] at hf2
        obtain ⟨nd, hnd⟩ : ∃ nd, relT Pf x = nd := ⟨_, rfl⟩
        rw [hnd] at hf2
        have HF := Lib.hid hf2
        have HL := Lib.hid (fun W (hW : Below w5.heap.size w5 W) => by have h := relinked_any (n : Int) j g2 N N x Pf W Hno.out (HS5.out.below hW) (Nat.le_of_lt hjN) (by omega) (Nat.le_refl _); rw [hnd] at h; exact h)
        clear hf hf2 hu hnd
        go_wp2_with fail
        refine (HL.out _ (Below.refl _ _)).mono ?_
        rintro e w6 ⟨rfl, hb6⟩
        have HP := Lib.hid (putN_any O (O + 1) v Kf nd w6 (blk_below HO5.out hb6) (owns_below HOW5.out hb6) (Nat.lt_succ_self _) (Nat.le_trans hz5 hb6.size) (by omega))
        have HT6 := Lib.hid (HT5.out.below hb6)
        have HS6 := Lib.hid (HS5.out.below hb6)
        have HB6 := Lib.hid (kTrans HB5.out hb6)
        have hz6 := Nat.le_trans hz5 hb6.size
        clear n0 n1 n2 ln cb gl HL hb6 HT5 HS5 HO5 HOW5 HB5 hz5
        go_wp2_with fail
        refine (HP.out).mono ?_
        rintro e w7 ⟨rfl, ⟨v', hP7, hown7⟩, hb7⟩
        have HT7 := Lib.hid ((HT6.out.lower hb7 (show g1 < O by omega)).far (p := ⟨g2, j, none⟩) (v := .int .i16 (Kf.length : Int)) (show g2 ≠ g1 by omega))
        have hS7 := HS6.out.lower hb7 (show g2 < O by omega)
        have c7 := hS7.at_ j hjN
        have f7 := hS7.fz j
        have l7 := hS7.lt
        have HS7 := Lib.hid (hS7.put (x := (Kf.length : Int)) hjN)
        have HO7 := Lib.hid (blk_set (p := ⟨g2, j, none⟩) (v := .int .i16 (Kf.length : Int)) hP7 (show O ≠ g2 by omega))
        have HOW7 := Lib.hid (owns_set_lt (B := g2) hown7 (by omega) j (.int .i16 (Kf.length : Int)))
        have HB7 := Lib.hid (kSet (HB6.out.trans (hb7.mono (by have := Hg2.out; omega))) (p := ⟨g2, j, none⟩) Hg2.out (.int .i16 (Kf.length : Int)))
        have hz7 : O + 1 ≤ (w7.setCell ⟨g2, j, none⟩ (.int .i16 (Kf.length : Int))).heap.size := by have := hb7.size; simp [World.setCell]; omega
        clear hS7 hP7 hown7 hb7 HT6 HS6 HB6 HP hz6
        go_wp2
        exact ⟨⟨j + 1, _, _, _, by omega, by go_num, by simp; omega, HF, HT7, HS7, HO7, HOW7, hz7, HB7⟩, by simp [intOf] <;> omega⟩
      · have hu2 : U j = false := by simpa using hu
        rw [hu2] at cb
        have HF : Hid (trimT U (l.drop (j + 1)) (j + 1) Pf Kf = (P, K)) := Lib.hid (by have h := hf.out; rw [trimT_no hlk hu] at h; exact h)
        clear hf hu hu2
        go_wp2
        exact ⟨⟨j + 1, _, _, _, by omega, by go_num, by omega, HF, HT5, HS5, HO5, HOW5, hz5, HB5⟩, by simp [intOf] <;> omega⟩
    · obtain rfl : j = N := by omega
      obtain ⟨rfl, rfl⟩ : Pf = P ∧ Kf = K := by have h := hf.out; rw [trimT_end (by rw [Hn.out]; exact Nat.le_refl _)] at h; injection h with h1 h2; exact ⟨h1, h2⟩
      obtain ⟨va, vc, rfl⟩ := owns_slice hown.out
      have HND0 := Lib.hid (SlWNd.of_owns hown.out)
      have y0 := HBX.out _ hb.out
      have lX := blk_lt y0
      have hNx := NwAt.of y0
      have o0 : wr3.cell? ⟨O, 0, none⟩ = some (.slice va Kf.length vc) := cell_of_row _ _ 0 _ _ _ hO.out
      have lO := blk_lt hO.out
      have HIT := Lib.hid (fun W (hW : Below wr3.heap.size wr3 W) => itemsS_any g2 j j k q ck Pf p W (hS.out.below hW) (Nat.le_refl _) ((HK.out wr3 hb.out).below hW).p1 ((HK.out wr3 hb.out).below hW).z1 Hq.out (by omega) (by omega) (by have := HR.out; exact this) _ rfl)
      have hRO : w.heap.size + 1 ≠ O := by have := Hg2.out; omega
      have Hhb := hb
      clear hf hT hS hO y0 hown hb
      go_upto_region 10 with fail
      refine regionW_of_HN (fun W' => NwAt W' w.heap.size n (.slice (some ⟨b, 0, none⟩) j cb) (.slice (some ⟨k, 0, none⟩) q ck) ∧ W'.cell? ⟨O, 0, none⟩ = some (.slice va Kf.length vc)) (by kernel_rfl) ⟨hNx, o0⟩ (fun hHeld => ?_)
      clear o0 hNx
      refine wpAnyH_take (i := 0) (v := .pointer (some ⟨w.heap.size, 0, none⟩)) rfl (by kernel_rfl) (by kernel_rfl) (by kernel_rfl) (fun _ _ _ h => absurd h.1 (by simp)) (Or.inl ⟨by rfl, fun w7 hSw => ?_⟩) (by assumption) ?_
      · clear hSw
        go_simp
      try simp only [Act.put, List.setIfInBounds_toArray, List.set_cons_zero, List.set_cons_succ]
      refine wpAnyH_take (i := 1) (v := .int .i8 (n : Int)) rfl (by kernel_rfl) (by kernel_rfl) (by kernel_rfl) (fun _ _ _ h => absurd h.1 (by simp)) (Or.inl ⟨by rfl, fun w7 hSw => ?_⟩) (by assumption) ?_
      · obtain ⟨⟨x0, x1, x2⟩, o0⟩ := hSw
        go_simp
      try simp only [Act.put, List.setIfInBounds_toArray, List.set_cons_zero, List.set_cons_succ]
      refine wpAnyH_take (i := 2) (v := .slice va Kf.length vc) rfl (by kernel_rfl) (by kernel_rfl) (by kernel_rfl) (fun _ _ _ h => absurd h.1 (by simp)) (Or.inl ⟨by rfl, fun w7 hSw => ?_⟩) (by assumption) ?_
      · obtain ⟨⟨x0, x1, x2⟩, o0⟩ := hSw
        go_simp
      try simp only [Act.put, List.setIfInBounds_toArray, List.set_cons_zero, List.set_cons_succ]
      refine wpAnyH_take (i := 3) (v := .slice (some ⟨g2, 0, none⟩) j j) rfl (by kernel_rfl) (by kernel_rfl) (by kernel_rfl) (fun _ _ _ h => absurd h.1 (by simp)) (Or.inl ⟨by rfl, fun w7 hSw => ?_⟩) (by assumption) ?_
      · clear hSw
        go_simp
      try simp only [Act.put, List.setIfInBounds_toArray, List.set_cons_zero, List.set_cons_succ]
      refine wpAnyH_take (i := 4) (v := .pointer (some ⟨w.heap.size, 2, none⟩)) rfl (by kernel_rfl) (by kernel_rfl) (by kernel_rfl) (fun _ _ _ h => absurd h.1 (by simp)) (Or.inl ⟨by rfl, fun w7 hSw => ?_⟩) (by assumption) ?_
      · clear hSw
        go_simp
      try simp only [Act.put, List.setIfInBounds_toArray, List.set_cons_zero, List.set_cons_succ]
      refine wpAnyH_take (i := 5) (v := .slice (some ⟨k, 0, none⟩) q ck) rfl (by kernel_rfl) (by kernel_rfl) (by kernel_rfl) (fun _ _ _ h => absurd h.1 (by simp)) (Or.inl ⟨by rfl, fun w7 hSw => ?_⟩) (by assumption) ?_
      · obtain ⟨⟨x0, x1, x2⟩, o0⟩ := hSw
        go_simp
      try simp only [Act.put, List.setIfInBounds_toArray, List.set_cons_zero, List.set_cons_succ]
      refine wpAnyH_ready (rs := [6]) (by kernel_rfl) (by simp) ?_
      refine AllReadyH.cons rfl (fun K hK => ?_) AllReadyH.nil
      go_simp
      go_wp2_with (go_at_call 28
                   refine (HIT.out _ (Below.drew (Below.refl _ _))).mono ?_
                   rintro e w8 ⟨u8, rfl, hs8, hb8⟩
                   obtain ⟨ua, uc, rfl⟩ := hs8.form
                   have HS8 := Lib.hid hs8
                   have HB8 := Lib.hid (kTrans (Below.drew (Below.refl wr3.heap.size wr3)) hb8)
                   have S8 : NwAt w8 w.heap.size n (.slice (some ⟨b, 0, none⟩) j cb) (.slice (some ⟨k, 0, none⟩) q ck) ∧ w8.cell? ⟨O, 0, none⟩ = some (.slice va Kf.length vc) := ⟨hHeld.1.below hb8 lX, (hb8.cell (p := ⟨O, 0, none⟩) lO).trans hHeld.2⟩
                   clear hs8 hb8)
      refine hK.out _ _ S8 (fun hHeld => ?_)
      clear hK K HIT
      refine wpAnyH_take (i := 7) (v := .agg #[.int .i8 (n : Int), .slice va Kf.length vc, .slice ua (pickP Pf p).length uc]) rfl (by kernel_rfl) (by kernel_rfl) (by kernel_rfl) (fun _ _ _ h => absurd h.1 (by simp)) (Or.inl ⟨by rfl, fun w7 hSw => ?_⟩) (by assumption) ?_
      · clear hSw
        go_simp
      try simp only [Act.put, List.setIfInBounds_toArray, List.set_cons_zero, List.set_cons_succ]
      have rs_ := HBR.out w8 (kTrans Hhb.out HB8.out)
      have r0 : w8.cell? ⟨w.heap.size + 1, 0, none⟩ = some (.int .i8 0) := cell_of_row _ _ 0 _ _ _ rs_
      have r1 : w8.cell? ⟨w.heap.size + 1, 1, none⟩ = some (.slice none 0 0) := cell_of_row _ _ 1 _ _ _ rs_
      have r2 : w8.cell? ⟨w.heap.size + 1, 2, none⟩ = some (.slice none 0 0) := cell_of_row _ _ 2 _ _ _ rs_
      have q0 : w8.frozen? ⟨w.heap.size + 1, 0, none⟩ = false := frozen_of_row _ _ 0 _ _ rs_
      have q1 : w8.frozen? ⟨w.heap.size + 1, 1, none⟩ = false := frozen_of_row _ _ 1 _ _ rs_
      have q2 : w8.frozen? ⟨w.heap.size + 1, 2, none⟩ = false := frozen_of_row _ _ 2 _ _ rs_
      have lr_ := blk_lt rs_
      have HR3 := Lib.hid (box3_set (x' := .int .i8 (n : Int)) (y' := .slice va Kf.length vc) (z' := .slice ua (pickP Pf p).length uc) rs_)
      have hkr : KeptOut (w.heap.size + 1) (w.heap.size + 2) w8 (((w8.setCell ⟨w.heap.size + 1, 0, none⟩ (.int .i8 (n : Int))).setCell ⟨w.heap.size + 1, 1, none⟩ (.slice va Kf.length vc)).setCell ⟨w.heap.size + 1, 2, none⟩ (.slice ua (pickP Pf p).length uc)) :=
        (((KeptOut.of_below (Below.refl _ _)).set ⟨w.heap.size + 1, 0, none⟩ (Nat.le_refl _) (Nat.lt_succ_self _) _).set ⟨w.heap.size + 1, 1, none⟩ (Nat.le_refl _) (Nat.lt_succ_self _) _).set ⟨w.heap.size + 1, 2, none⟩ (Nat.le_refl _) (Nat.lt_succ_self _) _
      have hOm : w.heap.size + 2 ≤ O + 1 := by have := Hg2.out; omega
      have HN1 := Lib.hid (((HND0.out.below HB8.out).out hkr (.inr hOm)).mono (show w.heap.size ≤ O + 1 by omega) (Nat.le_refl _))
      have HN2 := Lib.hid ((HS8.out.out hkr (.inr (by have := HB8.out.size; simp only [World.drew] at *; omega))).mono (show wr3.heap.size ≤ wr3.heap.size from Nat.le_refl _) hkr.size)
      have HBB := Lib.hid (kSet (kSet (kSet (kTrans HK0.out (kTrans Hhb.out HB8.out)) (p := ⟨w.heap.size + 1, 0, none⟩) (Nat.le_succ _) (.int .i8 (n : Int))) (p := ⟨w.heap.size + 1, 1, none⟩) (Nat.le_succ _) (.slice va Kf.length vc)) (p := ⟨w.heap.size + 1, 2, none⟩) (Nat.le_succ _) (.slice ua (pickP Pf p).length uc))
      have hmz := Nat.le_trans HB8.out.size hkr.size
      have S9 : NwAt (((w8.setCell ⟨w.heap.size + 1, 0, none⟩ (.int .i8 (n : Int))).setCell ⟨w.heap.size + 1, 1, none⟩ (.slice va Kf.length vc)).setCell ⟨w.heap.size + 1, 2, none⟩ (.slice ua (pickP Pf p).length uc)) w.heap.size n (.slice (some ⟨b, 0, none⟩) j cb) (.slice (some ⟨k, 0, none⟩) q ck) ∧ (((w8.setCell ⟨w.heap.size + 1, 0, none⟩ (.int .i8 (n : Int))).setCell ⟨w.heap.size + 1, 1, none⟩ (.slice va Kf.length vc)).setCell ⟨w.heap.size + 1, 2, none⟩ (.slice ua (pickP Pf p).length uc)).cell? ⟨O, 0, none⟩ = some (.slice va Kf.length vc) :=
        ⟨⟨(hkr.cell (by omega) (.inl (Nat.lt_succ_self _))).trans hHeld.1.1, (hkr.cell (by omega) (.inl (Nat.lt_succ_self _))).trans hHeld.1.2.1, (hkr.cell (by omega) (.inl (Nat.lt_succ_self _))).trans hHeld.1.2.2⟩, (hkr.cell (Nat.lt_of_lt_of_le lO HB8.out.size) (.inr (by omega))).trans hHeld.2⟩
      clear hkr rs_
      refine wpAnyH_ready (rs := [8]) (by kernel_rfl) (by simp) ?_
      refine AllReadyH.cons rfl (fun K hK => ?_) AllReadyH.nil
      go_simp
      refine hK.out _ _ S9 (fun hHeld => ?_)
      clear hK K
      refine wpAnyH_done (by kernel_rfl) ?_ _
      refine ⟨rfl, ?_⟩
      clear hHeld r0 r1 r2 q0 q1 q2 S9
      go_wp2
      refine bodyPost_ret (v := .agg #[.int .i8 (n : Int), .slice va Kf.length vc, .slice ua (pickP Pf p).length uc]) (results_cell_row rfl _ _ (w.heap.size + 1) 30 #[.int .i8 (n : Int), .slice va Kf.length vc, .slice ua (pickP Pf p).length uc] (0, 0) _ rfl HR3.out Try.underlying30 rfl (by kernel_rfl)) rfl ?_
      exact ⟨_, _, rfl, .mk wr3.heap.size _ _ (by omega) hmz HN1.out HN2.out, HBB.out⟩
theorem keptRowN {g : Nat} {w : World} {cs : Array Value} : KeptOut g (g + 1) w (w.setRow g cs) := ⟨rfl, rfl, rfl, by simp, fun k hk ho => setRow_other _ _ _ _ (by omega)⟩
theorem nwr_nil {lo hi : Nat} {w : World} (h : lo ≤ hi) : NwR lo hi w [] [] (.slice none 0 0) (.slice none 0 0) := .mk lo _ _ (Nat.le_refl _) h (.empty _ _ rfl) (.empty _ _ rfl)
theorem quad_N {a a' : Int} {l l' : List Nd} {p p' : List Int} {c c' : Int} (h : (a, l, p, c) = (a', l', p', c')) : a = a' ∧ l = l' ∧ p = p' ∧ c = c' := by injection h with h1 h; injection h with h2 h; injection h with h3 h4; exact ⟨h1, h2, h3, h4⟩
/-- a network of so many nodes and outputs that is no error -/
def NwFine (l : List Nd) (p : List Int) : Prop := NdsWf l ∧ ShsWf p ∧ l.length ≤ 1048576 ∧ p.length ≤ 1048576
def okQ (R : Bool) (ni : Int) (l : List Nd) (p : List Int) : Int × List Nd × List Int × Int := if R = true then (ni, l, p, 0) else (0, [], [], 1)
theorem okQ_fine {R : Bool} {ni : Int} {l : List Nd} {p : List Int} {Nr : Int} {lr : List Nd} {pr : List Int} {C : Int} (h : R = true → NwFine l p) (hQ : okQ R ni l p = (Nr, lr, pr, C)) : NdsWf lr ∧ ShsWf pr ∧ lr.length ≤ 1048576 ∧ pr.length ≤ 1048576 := by
  unfold okQ at hQ
  split at hQ
  · rename_i hR
    obtain ⟨-, rfl, rfl, -⟩ := quad_N hQ
    exact h hR
  · obtain ⟨-, rfl, rfl, -⟩ := quad_N hQ
    exact ⟨fun x hx => by simp at hx, fun x hx => by simp at hx, by simp, by simp⟩
theorem kept_fine {l : List Nd} {p : List Int} {ni : Int} (hok : netOk ni l p = true) (h8 : NdsWf l) : NwFine (keptT l p).2 (pickP (keptT l p).1 p) := by
  obtain ⟨h1, h2, h3, h4, h5⟩ := netOk_parts hok
  obtain ⟨g1, g2, g3⟩ := trimT_fine (U := usedT l p) l 0 (fun _ => 0) [] 1048576 h8 (fun x hx => by simp at hx) (by simp) (by omega) (Nat.le_refl _) (fun s => by simp) (by omega)
  refine ⟨g1, fun x hx => ?_, g2, by rw [pickP_length]; omega⟩
  unfold pickP at hx
  obtain ⟨y, hy, rfl⟩ := List.mem_map.1 hx
  exact wf_i16 (g3 _)
end Go.Proofs.Ytdnjamlibnmpfaa
