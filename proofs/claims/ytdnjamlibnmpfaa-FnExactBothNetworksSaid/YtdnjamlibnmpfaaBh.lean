/- BothNetworks: the program, where it answers a network. -/
import Derived.Test.YtdnjamlibnmpfaaBh1
import Derived.Test.YtdnjamlibnmpfaaCcSh
import Derived.Test.YtdnjamlibnmpfaaMgo
namespace Go.Proofs.Ytdnjamlibnmpfaa
open Go.ChangeShapes Go.WideShapes Go.ChangeAt Go.RowKit Go.Joins Go.Deep
set_option linter.unusedVariables false
set_option linter.unusedSimpArgs false
theorem sh_news {w : World} {b : Nat} {l : List Int} (h : ShsAt w b 0 l) : ∀ (j : Nat) (u : Value), (flatSh l)[j]? = some u → w.cell? ((⟨b, 0, none⟩ : Addr).add j) = some u := by
  intro j u hu
  unfold flatSh at hu
  rw [List.getElem?_map] at hu
  by_cases hj : j < l.length
  · rw [List.getElem?_eq_getElem hj] at hu
    obtain rfl : Value.int .i16 l[j] = u := Option.some.inj hu
    have := h j hj
    rw [Addr.add_lit]
    exact this
  · rw [List.getElem?_eq_none (by omega)] at hu; cases hu
set_option maxRecDepth 100000 in
set_option maxHeartbeats 8000000 in
theorem implBoth_ok (b k b' k' : Nat) (ni nj : Int) (l l' : List Nd) (p p' : List Int) (w : World) (h : NK w b k l p) (h' : NK w b' k' l' p') (h8 : NdsWf l) (h9 : ShsWf p) (h8' : NdsWf l') (h9' : ShsWf p') (bw : i8 ni) (bw' : i8 nj) (m0 : l.length ≤ 1048576) (m1 : p.length ≤ 1048576) (m0' : l'.length ≤ 1048576) (m1' : p'.length ≤ 1048576) (R R' : Bool) (hR : R = netOk ni l p) (hR' : R' = netOk nj l' p') (hr : R = true) (hr' : R' = true) (hne : ni = nj) (h80 : l.length + l'.length ≤ 80) (ho8 : p.length + p'.length ≤ 8) (Nr : Int) (lr : List Nd) (pr : List Int) (C : Int) (hQ : boQ R R' ni nj l l' p p' = (Nr, lr, pr, C)) :
    Calls Try.prog 9 #[.agg #[.int .i8 ni, .slice (some ⟨b, 0, none⟩) l.length l.length, .slice (some ⟨k, 0, none⟩) p.length p.length], .agg #[.int .i8 nj, .slice (some ⟨b', 0, none⟩) l'.length l'.length, .slice (some ⟨k', 0, none⟩) p'.length p'.length]] w fun e w' => ∃ v u, e = .returned (.tuple #[.agg #[.int .i8 Nr, v, u], .int .i64 C]) ∧ NwR w.heap.size w'.heap.size w' lr pr v u ∧ Below w.heap.size w w' := by
  have n1 := netOk_parts (show netOk ni l p = true by rw [← hR, hr])
  have hok' : netOk nj l' p' = true := by rw [← hR', hr']
  have n2 := netOk_parts hok'
  have HN := Lib.hid (fun i (hi : i < l'.length) => netOk_node hok' i hi)
  subst hne
  obtain ⟨A, hA⟩ : ∃ A, l.length = A := ⟨_, rfl⟩
  obtain ⟨N, hN⟩ : ∃ N, l'.length = N := ⟨_, rfl⟩
  obtain ⟨q, hq⟩ : ∃ q, p.length = q := ⟨_, rfl⟩
  obtain ⟨r, hr0⟩ : ∃ r, p'.length = r := ⟨_, rfl⟩
  rw [boQ, if_pos ⟨hr, hr'⟩, if_pos rfl, if_pos ⟨h80, ho8⟩] at hQ
  obtain ⟨rfl, rfl, rfl, rfl⟩ := quad_N (show ((ni, boN l l', boP l.length p p', 0) : Int × List Nd × List Int × Int) = (Nr, lr, pr, C) from hQ)
  subst hr hr'
  have g1 : (A : Int) ≤ 80 := by omega
  have g2 : (N : Int) ≤ 80 := by omega
  have g3 : (q : Int) ≤ 8 := by omega
  have g4 : (r : Int) ≤ 8 := by omega
  have e3 : decide ((80 : Int) < (A : Int) + N) = false := by simp; omega
  have e3' : ¬ (80 : Int) < (A : Int) + N := by omega
  have e4 : decide ((8 : Int) < (q : Int) + r) = false := by simp; omega
  have e4' : ¬ (8 : Int) < (q : Int) + r := by omega
  have f1 : 1 ≤ A ∧ 1 ≤ N ∧ 1 ≤ q ∧ 1 ≤ r := by omega
  have HRO := Lib.hid (show ∀ x ∈ p', 0 ≤ x ∧ x < (N : Int) by have h := outsOkN_all n2.2.2.2.2; rw [hN] at h; exact h)
  have HA := Lib.hid hA
  have HNl := Lib.hid hN
  have Hq := Lib.hid hq
  have Hr := Lib.hid hr0
  rw [hA, hN, hq, hr0]
  obtain ⟨W0, hW⟩ : ∃ W0, ((w.alloc (.cells #[.int .i8 ni, .slice (some ⟨b, 0, none⟩) A A, .slice (some ⟨k, 0, none⟩) q q] 30)).alloc (.cells #[.int .i8 ni, .slice (some ⟨b', 0, none⟩) N N, .slice (some ⟨k', 0, none⟩) r r] 30)).alloc (.cells #[.int .i8 0, .slice none 0 0, .slice none 0 0] 30) = W0 := ⟨_, rfl⟩
  have k0 : Below w.heap.size w W0 := by rw [← hW]; exact kAlloc (kAlloc (kAlloc (Below.refl _ _) _) _) _
  have hs0 : w.heap.size + 3 ≤ W0.heap.size := by rw [← hW]; simp
  have bX : W0.heap[w.heap.size]? = some (.cells #[.int .i8 ni, .slice (some ⟨b, 0, none⟩) A A, .slice (some ⟨k, 0, none⟩) q q] 30 (0, 0)) := by
    rw [← hW]; exact (Below.heap_alloc _ _ _ (by simp; omega)).trans ((Below.heap_alloc _ _ _ (by simp)).trans (heap_alloc_new _ _))
  have bY : W0.heap[w.heap.size + 1]? = some (.cells #[.int .i8 ni, .slice (some ⟨b', 0, none⟩) N N, .slice (some ⟨k', 0, none⟩) r r] 30 (0, 0)) := by
    rw [← hW]; exact (Below.heap_alloc _ _ _ (by simp)).trans (heap_two _ _ _)
  have bR : W0.heap[w.heap.size + 1 + 1]? = some (.cells #[.int .i8 0, .slice none 0 0, .slice none 0 0] 30 (0, 0)) := by
    rw [← hW]
    have h := heap_alloc_new ((w.alloc (.cells #[.int .i8 ni, .slice (some ⟨b, 0, none⟩) A A, .slice (some ⟨k, 0, none⟩) q q] 30)).alloc (.cells #[.int .i8 ni, .slice (some ⟨b', 0, none⟩) N N, .slice (some ⟨k', 0, none⟩) r r] 30)) (.cells #[.int .i8 0, .slice none 0 0, .slice none 0 0] 30)
    simpa only [World.size_alloc] using h
  have hnx := NwAt.of bX
  have hny := NwAt.of bY
  have hlx := hnx.lt
  have hly := hny.lt
  have HX := Lib.hid (fun W2 (h2 : Below W0.heap.size W0 W2) => hnx.below h2 hlx)
  have HY := Lib.hid (fun W2 (h2 : Below W0.heap.size W0 W2) => hny.below h2 hly)
  have HBR := Lib.hid (fun W2 (h2 : Below W0.heap.size W0 W2) => blk_below bR h2)
  have HV := Lib.hid (fun W2 (h2 : Below W0.heap.size W0 W2) => by have h := implValidNetwork_any b k ni l p W2 (h.below (kTrans k0 h2)) h8 h9 bw m0 m1 true hR; rw [hA, hq] at h; exact h)
  have HV' := Lib.hid (fun W2 (h2 : Below W0.heap.size W0 W2) => by have h := implValidNetwork_any b' k' ni l' p' W2 (h'.below (kTrans k0 h2)) h8' h9' bw' m0' m1' true hR'; rw [hN, hr0] at h; exact h)
  have HK := Lib.hid (fun W2 (h2 : Below W0.heap.size W0 W2) => h.below (kTrans k0 h2))
  have HK' := Lib.hid (fun W2 (h2 : Below W0.heap.size W0 W2) => h'.below (kTrans k0 h2))
  have HK0 := Lib.hid k0
  have HW := Lib.hid hW
  obtain ⟨x0, x1, x2⟩ := hnx
  obtain ⟨y0, y1, y2⟩ := hny
  have HCL := Lib.hid (fun W2 (h2 : Below W0.heap.size W0 W2) => cloneNd_mk b 0 A A l W2 hA (h.below (kTrans k0 h2)).p0 (h.below (kTrans k0 h2)).z0 (by omega))
  clear n1 n2 hok' hQ hR hR' h8 h9 h8' h9' h h' hW bX bY bR k0 m0 m1 m0' m1' hA hN hq hr0
  go_enter Try.func9, Try.ntmps9
  go_upto_region 1 with fail
  try rw [HW.out]
  go_wp2_with fail
  refine (HV.out _ (Below.refl _ _)).mono ?_
  rintro e w1 ⟨rfl, hb1⟩
  have hz1 := hb1.size
  have hy_ : NwAt w1 (w.heap.size + 1) ni (.slice (some ⟨b', 0, none⟩) N N) (.slice (some ⟨k', 0, none⟩) r r) := NwAt.below ⟨y0, y1, y2⟩ hb1 hly
  clear x0 x1 x2 y0 y1 y2
  obtain ⟨y0, y1, y2⟩ := hy_
  have ly1 := Nat.lt_of_lt_of_le hly hb1.size
  go_wp2_with fail
  refine (HV'.out _ hb1).mono ?_
  rintro e w2 ⟨rfl, hb2⟩
  have hb3 := kTrans hb1 hb2
  clear y0 y1 y2
  obtain ⟨x0, x1, x2⟩ := HX.out _ hb3
  obtain ⟨y0, y1, y2⟩ := HY.out _ hb3
  have lx3 := Nat.lt_of_lt_of_le hlx hb3.size
  have ly3 := Nat.lt_of_lt_of_le hly hb3.size
  clear HV HV' HW
  go_upto_region 7 with fail
  go_wp2_with fail
  refine (HCL.out _ hb3).mono ?_
  rintro e w3 ⟨nv, rfl, hnv, hb4⟩
  obtain ⟨va0, vc0, rfl⟩ := owns_slice hnv
  have HB3 := Lib.hid (kTrans hb3 hb4)
  have HX3 := Lib.hid (HX.out _ HB3.out)
  obtain ⟨W3, hW3⟩ : ∃ W3, (w3.alloc (.cells #[.slice va0 A vc0] 52)).alloc (.cells #[.slice none 0 0] 54) = W3 := ⟨_, rfl⟩
  have k3 : Below w3.heap.size w3 W3 := by rw [← hW3]; exact kAlloc (kAlloc (Below.refl _ _) _) _
  have HBW0 : Hid (BW W3 w3.heap.size (w3.heap.size + 1) W0.heap.size (w3.heap.size + 1) (.slice va0 A vc0) (.slice none 0 0) l []) := Lib.hid ⟨by
      have h := owns_below (owns_base_M hnv hb3.size) k3
      rw [HA.out]; exact h, by rw [← hW3]; exact (Below.heap_alloc _ _ _ (by simp)).trans (heap_alloc_new _ _), nilT_owns, by rw [← hW3]; exact heap_two _ _ _, Nat.ne_of_lt (Nat.lt_succ_self _)⟩
  have HB0 := Lib.hid (kTrans HB3.out k3)
  have hs3 : W0.heap.size ≤ w3.heap.size := HB3.out.size
  have hs4 : w3.heap.size + 2 ≤ W3.heap.size := by rw [← hW3]; simp
  have HW3 := Lib.hid hW3
  clear hnv k3 hW3 x0 x1 x2 y0 y1 y2 HCL hb4 hb3 hb2 hb1 lx3 ly3 hz1
  obtain ⟨y0, y1, y2⟩ := HY.out _ HB0.out
  have ly := (HY.out _ HB0.out).lt
  go_upto_region 9 with fail
  try rw [HW3.out]
  obtain ⟨PN, hPN⟩ : ∃ PN, w3.heap.size = PN := ⟨_, rfl⟩
  have HPN := Lib.hid hPN
  rw [hPN] at HBW0 hs3 hs4 ⊢
  clear HW3 hPN HX3
  go_wp2
  go_loopw [9, 54] (fun _ z wr => ∃ (j : Nat) (nv pv : Value), j ≤ N ∧ z = .int .i64 j ∧ Hid (BW wr PN (PN + 1) W0.heap.size (PN + 1) nv pv (l ++ (l'.take j).map (shN A)) (plP A j)) ∧ Hid (Below W0.heap.size W0 wr) ∧ PN + 2 ≤ wr.heap.size) (fun _ z _ => N - (intOf z).toNat)
  case atStart => exact ⟨0, _, _, by omega, rfl, by rw [List.take_zero, List.map_nil, List.append_nil]; exact HBW0, HB0, hs4⟩
  case round =>
    clear HBW0 HB0 hs4 y0 y1 y2 ly
    obtain ⟨j, nv, pv, hj, rfl, hP, hb, hsr⟩ := hrel
    by_cases hjN : j < N
    · have hlk : j < l'.length := by rw [HNl.out]; exact hjN
      obtain ⟨x, hx⟩ : ∃ x, l'[j] = x := ⟨_, rfl⟩
      have hno := HN.out j hlk
      rw [hx] at hno
      obtain ⟨a0, a1, a2⟩ := (show NdAt wr b' (0 + j * 3) x by have h := (HK'.out wr hb.out).p0 j hlk; rw [hx] at h; exact h)
      have zb := (HK'.out wr hb.out).z0
      simp only [Nat.zero_add] at a0 a1 a2
      have htk : (l'.take (j + 1)).map (shN A) = (l'.take j).map (shN A) ++ [shN A x] := by rw [List.take_succ_eq_append_getElem hlk, List.map_append, hx]; rfl
      have Htk := Lib.hid htk
      have hrl := rel_sh (m := A) hno
      have Hrl := Lib.hid hrl
      have hlen : (l ++ (l'.take j).map (shN A)).length = A + j := by rw [List.length_append, List.length_map, List.length_take, HA.out, HNl.out]; omega
      have Hlen := Lib.hid hlen
      have hno' : nodeOk ni (plP A j).length x = true := by rw [plP_length]; exact hno
      have HR1 := Lib.hid (fun W (hW : Below wr.heap.size wr W) => by have h := relinked_list ni (PN + 1) x (plP A j) pv W (hP.out.below hW).p hno' (by rw [plP_length]; omega); rw [Hrl.out] at h; exact h)
      clear hx hno htk hrl hlen hno'
      obtain ⟨w5, hW5⟩ : ∃ w5, wr.alloc (.cells #[.int .i8 x.kind, .int .i16 x.a, .int .i16 x.b] 48) = w5 := ⟨_, rfl⟩
      have k5 : Below wr.heap.size wr w5 := by rw [← hW5]; exact kAlloc (Below.refl _ _) _
      have bN : w5.heap[wr.heap.size]? = some (.cells #[.int .i8 x.kind, .int .i16 x.a, .int .i16 x.b] 48 (0, 0)) := by rw [← hW5]; exact nNew _ _
      have HW5 := Lib.hid hW5
      have HP5 := Lib.hid (hP.out.below k5)
      have HB5 := Lib.hid (kTrans hb.out k5)
      have HR5 := Lib.hid (HR1.out _ k5)
      clear hW5 k5 hP hb HR1
      go_upto_region 12 with fail
      try rw [HW5.out]
      obtain ⟨xg, hxg⟩ : ∃ xg, wr.heap.size = xg := ⟨_, rfl⟩
      rw [hxg] at bN ⊢
      clear a0 a1 a2 zb HW5 hxg hsr
      have n0 : w5.cell? ⟨xg, 0, none⟩ = some (.int .i8 x.kind) := cell_of_row _ _ 0 _ _ _ bN
      have n1 : w5.cell? ⟨xg, 1, none⟩ = some (.int .i16 x.a) := cell_of_row _ _ 1 _ _ _ bN
      have n2 : w5.cell? ⟨xg, 2, none⟩ = some (.int .i16 x.b) := cell_of_row _ _ 2 _ _ _ bN
      have ln := blk_lt bN
      have p0 : w5.cell? ⟨PN + 1, 0, none⟩ = some pv := cell_of_row _ _ 0 _ _ _ HP5.out.po
      have lp := blk_lt HP5.out.po
      clear bN
      go_wp2_with fail
      refine (HR5.out).mono ?_
      rintro e w6 ⟨rfl, hb6⟩
      have HP6 := Lib.hid (HP5.out.below hb6)
      have HB6 := Lib.hid (kTrans HB5.out hb6)
      have hsz6 := Nat.lt_of_lt_of_le lp hb6.size
      have HPU := Lib.hid (putN_at PN 0 W0.heap.size _ 52 nv _ (shN A x) w6 HP6.out.no rfl (by decide) HP6.out.n (HB6.out.size) (by have := Hlen.out; omega))
      have hl6 := blk_lt HP6.out.no
      clear n0 n1 n2 ln p0 lp hb6 HP5 HB5 HR5
      go_wp2_with fail
      refine (HPU.out).mono ?_
      rintro e w7 ⟨rfl, ⟨nv', ho7, hn7⟩, hp7⟩
      have HP7 := Lib.hid (HP6.out.putN hp7 hn7 (by rw [ho7]; rfl))
      have HB7 := Lib.hid (below_keptP HB6.out HP6.out.n hp7 hs3 (Nat.le_refl _) (HB6.out.size))
      have hsz7 := Nat.lt_of_lt_of_le hsz6 hp7.size
      have hll : ((l ++ (l'.take j).map (shN A)).length : Int) = ((A + j : Nat) : Int) := by rw [Hlen.out]
      rw [hll]
      have HPS := Lib.hid (putS_at (PN + 1) 0 (PN + 1) _ 54 pv (plP A j) ((A + j : Nat) : Int) w7 HP7.out.po rfl (by decide) HP7.out.p (Nat.le_of_lt hsz7) (by rw [plP_length]; omega))
      clear hn7 ho7 hp7 HPU HP6 HB6 hll hl6
      go_wp2_with fail
      refine (HPS.out).mono ?_
      rintro e w8 ⟨rfl, ⟨pv', ho8', hp8'⟩, hk8⟩
      rw [← plP_succ] at hp8'
      have HP8 := Lib.hid (HP7.out.putS hk8 hp8' (by rw [ho8']; rfl))
      have HB8 := Lib.hid (below_keptP HB7.out HP7.out.p hk8 (Nat.le_succ_of_le hs3) (Nat.le_succ_of_le hs3) (HB7.out.size))
      have hsz8 : PN + 2 ≤ w8.heap.size := Nat.le_trans hsz7 hk8.size
      clear HPS ho8' hp8' hk8 HP7 HB7
      go_wp2
      exact ⟨⟨j + 1, _, _, by omega, by go_num, by rw [Htk.out, ← List.append_assoc]; exact HP8, HB8, hsz8⟩, by simp [intOf]; omega⟩
    · obtain rfl : j = N := by omega
      have htk : l'.take j = l' := List.take_of_length_le (by rw [HNl.out]; exact Nat.le_refl _)
      rw [htk] at hP
      have hbn : (l ++ l'.map (shN A)).length = A + j := by rw [List.length_append, List.length_map, HA.out, HNl.out]
      obtain ⟨va, vc, rfl⟩ := owns_slice hP.out.n
      obtain ⟨M, hM⟩ : ∃ M, (l ++ l'.map (shN A)).length = M := ⟨_, rfl⟩
      rw [hM] at hP
      obtain ⟨pg, pc, hpv, -, HSp, hpb, hpc⟩ := row_sh hP.out.p (by rw [plP_length]; omega)
      rw [plP_length] at hpv HSp hpc
      subst hpv
      have HPn := Lib.hid (show wr.ownsRow W0.heap.size 48 3 (.slice va M vc) (l ++ l'.map (shN A)).length (flatNd (l ++ l'.map (shN A))) from hP.out.n)
      have hNx := HX.out _ hb.out
      have hNy := HY.out _ hb.out
      have lX := hNx.lt
      have lY := hNy.lt
      have o1 : wr.cell? ⟨PN + 1, 0, none⟩ = some (.slice (some ⟨pg, 0, none⟩) j pc) := cell_of_row _ _ 0 _ _ _ hP.out.po
      have o0 : wr.cell? ⟨PN, 0, none⟩ = some (.slice va M vc) := cell_of_row _ _ 0 _ _ _ hP.out.no
      have lO1 := blk_lt hP.out.po
      have lO0 := blk_lt hP.out.no
      have HIT := Lib.hid (fun W (hW : Below wr.heap.size wr W) => itemsS_at pg j pc k' r r (atP (plP A j)) p' W (HSp.below hW) hpc ((HK'.out wr hb.out).below hW).p1 ((HK'.out wr hb.out).below hW).z1 Hr.out (by omega) (by omega) (by have := HRO.out; exact this) (p'.map (· + (A : Int))) (pick_sh (by have := HRO.out; exact this)))
      have HKP := Lib.hid (fun W (hW : Below wr.heap.size wr W) => ((HK.out wr hb.out).below hW).p1)
      have HKz := (HK.out wr hb.out).z1
      have Hhb := hb
      have Hbn := Lib.hid hbn
      clear hP hb HSp htk hbn hM
      go_upto_region 14 with fail
      refine regionW_of_HM (fun W' => NwAt W' w.heap.size ni (.slice (some ⟨b, 0, none⟩) A A) (.slice (some ⟨k, 0, none⟩) q q) ∧ NwAt W' (w.heap.size + 1) ni (.slice (some ⟨b', 0, none⟩) j j) (.slice (some ⟨k', 0, none⟩) r r) ∧ W'.cell? ⟨PN + 1, 0, none⟩ = some (.slice (some ⟨pg, 0, none⟩) j pc)) (by kernel_rfl) ⟨hNx, hNy, o1⟩ (fun hHeld => ?_)
      clear o1 hNx hNy
      refine wpAnyH_take (i := 0) (v := .pointer (some ⟨w.heap.size, 2, none⟩)) rfl (by kernel_rfl) (by kernel_rfl) (by kernel_rfl) (fun _ _ _ h => absurd h.1 (by simp)) (Or.inl ⟨by rfl, fun w7 hSw => ?_⟩) (by assumption) ?_
      · clear hSw
        go_simp
      try simp only [Act.put, List.setIfInBounds_toArray, List.set_cons_zero, List.set_cons_succ]
      refine wpAnyH_take (i := 1) (v := .slice (some ⟨k, 0, none⟩) q q) rfl (by kernel_rfl) (by kernel_rfl) (by kernel_rfl) (fun _ _ _ h => absurd h.1 (by simp)) (Or.inl ⟨by rfl, fun w7 hSw => ?_⟩) (by assumption) ?_
      · obtain ⟨⟨x0, x1, x2⟩, ⟨y0, y1, y2⟩, o1⟩ := hSw
        go_simp
      try simp only [Act.put, List.setIfInBounds_toArray, List.set_cons_zero, List.set_cons_succ]
      refine wpAnyH_take (i := 2) (v := .slice (some ⟨pg, 0, none⟩) j pc) rfl (by kernel_rfl) (by kernel_rfl) (by kernel_rfl) (fun _ _ _ h => absurd h.1 (by simp)) (Or.inl ⟨by rfl, fun w7 hSw => ?_⟩) (by assumption) ?_
      · obtain ⟨⟨x0, x1, x2⟩, ⟨y0, y1, y2⟩, o1⟩ := hSw
        go_simp
      try simp only [Act.put, List.setIfInBounds_toArray, List.set_cons_zero, List.set_cons_succ]
      refine wpAnyH_take (i := 3) (v := .pointer (some ⟨w.heap.size + 1, 2, none⟩)) rfl (by kernel_rfl) (by kernel_rfl) (by kernel_rfl) (fun _ _ _ h => absurd h.1 (by simp)) (Or.inl ⟨by rfl, fun w7 hSw => ?_⟩) (by assumption) ?_
      · clear hSw
        go_simp
      try simp only [Act.put, List.setIfInBounds_toArray, List.set_cons_zero, List.set_cons_succ]
      refine wpAnyH_take (i := 4) (v := .slice (some ⟨k', 0, none⟩) r r) rfl (by kernel_rfl) (by kernel_rfl) (by kernel_rfl) (fun _ _ _ h => absurd h.1 (by simp)) (Or.inl ⟨by rfl, fun w7 hSw => ?_⟩) (by assumption) ?_
      · obtain ⟨⟨x0, x1, x2⟩, ⟨y0, y1, y2⟩, o1⟩ := hSw
        go_simp
      try simp only [Act.put, List.setIfInBounds_toArray, List.set_cons_zero, List.set_cons_succ]
      refine wpAnyH_ready (rs := [5]) (by kernel_rfl) (by simp) ?_
      refine AllReadyH.cons rfl (fun K hK => ?_) AllReadyH.nil
      go_simp
      go_wp2_with (go_at_call 28
                   refine (HIT.out _ (Below.drew (Below.refl _ _))).mono ?_
                   rintro e w8 ⟨rfl, hs8, hs9, hs10, hb8⟩
                   have HS8 := Lib.hid hs8
                   obtain ⟨g8, hg8⟩ : ∃ g8, wr.drew.heap.size = g8 := ⟨_, rfl⟩
                   rw [hg8] at HS8 hs9 ⊢
                   have Hg8 := Lib.hid (show wr.heap.size = g8 from hg8)
                   have hk8 : Below wr.heap.size wr w8 := kTrans (Below.drew (Below.refl wr.heap.size wr)) hb8
                   have HB8 := Lib.hid hk8
                   have S8 : NwAt w8 w.heap.size ni (.slice (some ⟨b, 0, none⟩) A A) (.slice (some ⟨k, 0, none⟩) q q) ∧ NwAt w8 (w.heap.size + 1) ni (.slice (some ⟨b', 0, none⟩) j j) (.slice (some ⟨k', 0, none⟩) r r) ∧ w8.cell? ⟨PN + 1, 0, none⟩ = some (.slice (some ⟨pg, 0, none⟩) j pc) := ⟨hHeld.1.below hb8 lX, hHeld.2.1.below hb8 lY, (hb8.cell (p := ⟨PN + 1, 0, none⟩) lO1).trans hHeld.2.2⟩
                   clear hs8 hs10 hb8 hg8 hk8)
      refine hK.out _ _ S8 (fun hHeld => ?_)
      clear HIT S8
      clear hK K
      obtain ⟨w9, hw9⟩ : ∃ w9, w8.alloc (.cells #[.slice (some ⟨k, 0, none⟩) q q, .slice (some ⟨g8, 0, none⟩) r r] 24) = w9 := ⟨_, rfl⟩
      have k9 : Below w8.heap.size w8 w9 := by rw [← hw9]; exact kAlloc (Below.refl _ _) _
      have b9 : w9.heap[w8.heap.size]? = some (.cells #[.slice (some ⟨k, 0, none⟩) q q, .slice (some ⟨g8, 0, none⟩) r r] 24 (0, 0)) := by rw [← hw9]; exact nNew _ _
      have S9 : NwAt w9 w.heap.size ni (.slice (some ⟨b, 0, none⟩) A A) (.slice (some ⟨k, 0, none⟩) q q) ∧ NwAt w9 (w.heap.size + 1) ni (.slice (some ⟨b', 0, none⟩) j j) (.slice (some ⟨k', 0, none⟩) r r) ∧ w9.cell? ⟨PN + 1, 0, none⟩ = some (.slice (some ⟨pg, 0, none⟩) j pc) := ⟨hHeld.1.below k9 hHeld.1.lt, hHeld.2.1.below k9 hHeld.2.1.lt, (k9.cell (p := ⟨PN + 1, 0, none⟩) (World.block_lt_of_cell? _ _ hHeld.2.2)).trans hHeld.2.2⟩
      have Hw9 := Lib.hid hw9
      clear hw9
      refine wpAnyH_ready (rs := [6]) (by kernel_rfl) (by simp) ?_
      refine AllReadyH.cons rfl (fun K hK => ?_) AllReadyH.nil
      go_simp
      rw [Hw9.out]
      refine hK.out _ _ S9 (fun hHeld => ?_)
      clear S9
      clear hK K
      have q0 : w9.cell? ⟨w8.heap.size, 0, none⟩ = some (.slice (some ⟨k, 0, none⟩) q q) := cell_of_row _ _ 0 _ _ _ b9
      have q1 : w9.cell? ⟨w8.heap.size, 1, none⟩ = some (.slice (some ⟨g8, 0, none⟩) r r) := cell_of_row _ _ 1 _ _ _ b9
      have HB9 := Lib.hid (kTrans HB8.out k9)
      have HCC := Lib.hid (concatSh_any w8.heap.size ⟨k, 0, none⟩ ⟨g8, 0, none⟩ q r q r (flatSh p) (flatSh (p'.map (· + (A : Int)))) w9 q0 q1 (blk_lt b9) (by rw [flatSh_length, Hq.out]; omega) (by rw [flatSh_length, List.length_map, Hr.out]; omega)
        (fun W hW j u hu => sh_news (HKP.out W (kTrans HB9.out hW)) j u hu) (fun W hW j u hu => sh_news (HS8.out.below (kTrans k9 hW) hs9) j u hu) (flatSh_one _) (flatSh_one _) (by omega) (by omega) (by omega))
      obtain ⟨g9, hg9⟩ : ∃ g9, w9.heap.size = g9 := ⟨_, rfl⟩
      have hgl : wr.heap.size ≤ g9 := by rw [← hg9]; exact HB9.out.size
      have hl9 := blk_lt b9
      refine wpAnyH_ready (rs := [7]) (by kernel_rfl) (by simp) ?_
      refine AllReadyH.cons rfl (fun K hK => ?_) AllReadyH.nil
      go_simp
      go_wp2_with (go_at_call 27
                   refine (HCC.out).mono ?_
                   rintro e w10 ⟨u, rfl, hu, hb10⟩
                   have HU := Lib.hid hu
                   have HB10 := Lib.hid (kTrans HB9.out hb10)
                   have hg10 : g9 ≤ w10.heap.size := by have := hb10.size; omega
                   have S10 : NwAt w10 w.heap.size ni (.slice (some ⟨b, 0, none⟩) A A) (.slice (some ⟨k, 0, none⟩) q q) ∧ NwAt w10 (w.heap.size + 1) ni (.slice (some ⟨b', 0, none⟩) j j) (.slice (some ⟨k', 0, none⟩) r r) ∧ w10.cell? ⟨PN + 1, 0, none⟩ = some (.slice (some ⟨pg, 0, none⟩) j pc) := ⟨hHeld.1.below hb10 hHeld.1.lt, hHeld.2.1.below hb10 hHeld.2.1.lt, (hb10.cell (p := ⟨PN + 1, 0, none⟩) (World.block_lt_of_cell? _ _ hHeld.2.2)).trans hHeld.2.2⟩
                   clear hu hb10)
      refine hK.out _ _ S10 (fun hHeld => ?_)
      clear S10 HCC q0 q1
      clear hK K
      refine wpAnyH_ready (rs := [8]) (by kernel_rfl) (by simp) ?_
      refine AllReadyH.cons rfl (fun K hK => ?_) AllReadyH.nil
      go_simp
      refine hK.out _ _ hHeld (fun hHeld => ?_)
      clear hK K
      refine wpAnyH_done (by kernel_rfl) ?_ _
      refine ⟨rfl, ?_⟩
      rw [hg9] at HU
      obtain ⟨x0, x1, x2⟩ := hHeld.1
      obtain ⟨ua, uc, rfl⟩ := owns_slice HU.out
      have p0 : w10.cell? ⟨PN, 0, none⟩ = some (.slice va M vc) := (HB10.out.cell (p := ⟨PN, 0, none⟩) lO0).trans o0
      have lP := Nat.lt_of_lt_of_le lO0 HB10.out.size
      have lX10 := Nat.lt_of_lt_of_le lX HB10.out.size
      have rs_ := HBR.out _ (kTrans Hhb.out HB10.out)
      have HT := Lib.hid (kTrans HK0.out (kTrans Hhb.out HB10.out))
      have kr := keptRowN (g := w.heap.size + 1 + 1) (w := w10) (cs := #[.int .i8 ni, .slice va M vc, .slice ua (q + r) uc])
      have hkz := kr.size
      have HN1 := Lib.hid (((nd_win (owns_below HPn.out HB10.out) (fun q hq => Nat.lt_of_lt_of_le (HPn.out.lt q hq).2 hgl)).out kr (.inr (by omega))).mono (show w.heap.size ≤ W0.heap.size by omega) (Nat.le_refl g9))
      have hbo : flatSh p ++ flatSh (p'.map (· + (A : Int))) = flatSh (boP A p p') := by unfold boP flatSh; rw [List.map_append]
      rw [hbo] at HU
      have HN2 := Lib.hid (((SlWSh.of_owns HU.out).out kr (.inr (by omega))).mono (Nat.le_refl g9) hkz)
      have hgz : g9 ≤ (w10.setRow (w.heap.size + 1 + 1) #[.int .i8 ni, .slice va M vc, .slice ua (q + r) uc]).heap.size := Nat.le_trans hg10 hkz
      clear hHeld o0 kr hbo
      go_wp2_with (refine wpList_store_row rfl 30 _ _ rfl (w.heap.size + 1 + 1) #[.int .i8 ni, .slice va M vc, .slice ua (q + r) uc] rfl rfl 30 _ rs_ (by kernel_rfl) (by kernel_rfl) (by kernel_rfl) ?_)
      refine bodyPost_ret (v := .tuple #[.agg #[.int .i8 ni, .slice va M vc, .slice ua (q + r) uc], .int .i64 0]) (results_cell_tmp rfl _ _ (w.heap.size + 1 + 1) 30 #[.int .i8 ni, .slice va M vc, .slice ua (q + r) uc] (0, 0) _ _ rfl rfl (setRow_heap _ _ _ _ _ _ rs_) Try.underlying30 rfl (by kernel_rfl)) rfl ?_
      exact ⟨_, _, rfl, .mk g9 _ _ (by omega) hgz (by unfold boN; rw [HA.out]; exact HN1.out) HN2.out, kRowW HT.out (by omega) _⟩
end Go.Proofs.Ytdnjamlibnmpfaa
