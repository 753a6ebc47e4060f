/- merged: the nodes' row lies below the outputs'. -/
import Derived.Test.YtdnjamlibnmpfaaMg2
namespace Go.Proofs.Ytdnjamlibnmpfaa
open Go.ChangeShapes Go.WideShapes Go.ChangeAt Go.RowKit Go.Joins Go.Deep
set_option linter.unusedVariables false
set_option linter.unusedSimpArgs false
set_option maxRecDepth 100000 in
set_option maxHeartbeats 16000000 in
theorem merged_lt (b k n cb ck : Nat) (l : List Nd) (p : List Int) (w : World) (h : NK w b k l p) (hok : netOk n l p = true) (R : MgS) (hR : mgOf n l = R) (L : List Int) (hL : pickP (atP R.P) p = L) :
    Calls Try.prog 63 #[.agg #[.int .i8 n, .slice (some ⟨b, 0, none⟩) l.length cb, .slice (some ⟨k, 0, none⟩) p.length ck]] w fun e w' => ∃ v g pl, e = .returned (.tuple #[.agg #[.int .i8 n, v, .slice (some ⟨g, 0, none⟩) L.length L.length], pl]) ∧
      w'.ownsRow w.heap.size 48 3 v R.M.length (flatNd R.M) ∧ w'.ownsRow w.heap.size 46 1 pl R.P.length (flatSh R.P) ∧ (ShsAt w' g 0 L ∧ g < w'.heap.size ∧ (∀ j, w'.frozen? ⟨g, j, none⟩ = false) ∧ w.heap.size ≤ g ∧ pl.ownBlock ≠ some g ∧ ∀ q, v.ownBlock = some q → q < g) ∧ Below w.heap.size w w' := by
  have hnp := netOk_parts hok
  have hn6 : 1 ≤ n ∧ n ≤ 6 := by omega
  have hl80 : 1 ≤ l.length ∧ l.length ≤ 80 := by omega
  have hp8 : 1 ≤ p.length ∧ p.length ≤ 8 := by omega
  have HRO := Lib.hid (outsOkN_all hnp.2.2.2.2)
  have HN := Lib.hid (fun i (hi : i < l.length) => netOk_node hok i hi)
  have HA0 : Hid (mgA n (l.drop 0) [] mg0 = R) := Lib.hid hR
  have HI0 : Hid (MgInv n [] mg0) := Lib.hid (MgInv.start n)
  have HG0 : Hid (GInv n mg0.K []) := Lib.hid (fun q hq => by simp at hq)
  have hmm := @run_makeMap Try.prog
  obtain ⟨N, hN⟩ : ∃ N, l.length = N := ⟨_, rfl⟩
  obtain ⟨q, hq⟩ : ∃ q, p.length = q := ⟨_, rfl⟩
  have Hn := Lib.hid hN
  have Hq := Lib.hid hq
  have HLL := Lib.hid hL
  have hLq : L.length = q := by rw [← hL, pickP_length, hq]
  rw [hLq]
  rw [hN] at hl80 HRO ⊢
  rw [hq] at hp8 ⊢
  have NETB : World.heap (w.alloc (.cells #[.int .i8 n, .slice (some ⟨b, 0, none⟩) N cb, .slice (some ⟨k, 0, none⟩) q ck] 30)) = World.heap (w.alloc (.cells #[.int .i8 n, .slice (some ⟨b, 0, none⟩) N cb, .slice (some ⟨k, 0, none⟩) q ck] 30)) := rfl
  obtain ⟨W0, hW⟩ : ∃ W0, (w.alloc (.cells #[.int .i8 n, .slice (some ⟨b, 0, none⟩) N cb, .slice (some ⟨k, 0, none⟩) q ck] 30)).alloc (.cells #[.int .i8 0, .slice none 0 0, .slice none 0 0] 30) = W0 := ⟨_, rfl⟩
  have k0 : Below w.heap.size w W0 := by rw [← hW]; exact kAlloc (kAlloc (Below.refl _ _) _) _
  have hsz0 : W0.heap.size = w.heap.size + 2 := by rw [← hW]; simp
  have bX : W0.heap[w.heap.size]? = some (.cells #[.int .i8 n, .slice (some ⟨b, 0, none⟩) N cb, .slice (some ⟨k, 0, none⟩) q ck] 30 (0, 0)) := by rw [← hW]; exact (Below.heap_alloc _ _ _ (by simp)).trans (heap_alloc_new _ _)
  have bR : W0.heap[w.heap.size + 1]? = some (.cells #[.int .i8 0, .slice none 0 0, .slice none 0 0] 30 (0, 0)) := by rw [← hW]; exact heap_two _ _ _
  have HBX := Lib.hid (fun W (hW : Below W0.heap.size W0 W) => blk_below bX hW)
  have HBR := Lib.hid (fun W (hW : Below W0.heap.size W0 W) => blk_below bR hW)
  have HK := Lib.hid (fun W (hW : Below W0.heap.size W0 W) => h.below (kTrans k0 hW))
  have HK0 := Lib.hid k0
  have lw := blk_lt bR
  obtain ⟨x0, x1, x2⟩ := NwAt.of bX
  have HW := Lib.hid hW
  have Hs0 := Lib.hid hsz0
  have hs0 : w.heap.size + 2 ≤ W0.heap.size := Nat.le_of_eq hsz0.symm
  clear NETB h hok hN hq hR hL hW hnp bX bR k0 hLq hsz0
  go_enter Try.func63, Try.ntmps63
  go_upto_region 1 with fail
  try rw [HW.out]
  obtain ⟨W3, hW3⟩ : ∃ W3, ((W0.alloc (.map #[] 0)).alloc (.cells #[.int .i8 (n : Int), .slice none 0 0, .slice none 0 0, .map (some W0.heap.size)] 109)).alloc (.cells #[.slice none 0 0] 54) = W3 := ⟨_, rfl⟩
  have k3 : Below W0.heap.size W0 W3 := by rw [← hW3]; exact kAlloc (kAlloc (kAlloc (Below.refl _ _) _) _) _
  have bM : W3.heap[W0.heap.size]? = some (.map #[] 0) := by rw [← hW3]; exact (Below.heap_alloc _ _ _ (by simp; omega)).trans ((Below.heap_alloc _ _ _ (by simp)).trans (heap_alloc_new _ _))
  have bK : W3.heap[W0.heap.size + 1]? = some (.cells #[.int .i8 (n : Int), .slice none 0 0, .slice none 0 0, .map (some W0.heap.size)] 109 (0, 0)) := by rw [← hW3]; exact (Below.heap_alloc _ _ _ (by simp)).trans (heap_two _ _ _)
  have bP : W3.heap[W0.heap.size + 1 + 1]? = some (.cells #[.slice none 0 0] 54 (0, 0)) := by
    rw [← hW3]
    have h := heap_two (W0.alloc (.map #[] 0)) (.cells #[.int .i8 (n : Int), .slice none 0 0, .slice none 0 0, .map (some W0.heap.size)] 109) (.cells #[.slice none 0 0] 54)
    simpa only [World.size_alloc] using h
  have HPW0 : Hid (PW W3 (W0.heap.size + 1) W0.heap.size (W0.heap.size + 1 + 1) n (.slice none 0 0) (.slice none 0 0) (.slice none 0 0) mg0.K mg0.M [] mg0.P) :=
    Lib.hid ⟨⟨nilT_owns, nilT_owns, bK, ⟨#[], 0, bM, trivial⟩, Nat.lt_succ_self _⟩, nilT_owns, bP, Nat.lt_succ_self _⟩
  have HB3 := Lib.hid k3
  have hz3 := k3.size
  have hlP3 := blk_lt bP
  have HW3 := Lib.hid hW3
  clear bM bK bP k3 hW3
  go_upto_region 3 with fail
  clear x0 x1 x2 hmm
  try rw [HW3.out]
  have y0 := HBX.out W3 HB3.out
  have ly := blk_lt y0
  obtain ⟨x0, x1, x2⟩ := NwAt.of y0
  obtain ⟨Mp, hMp⟩ : ∃ Mp, W0.heap.size = Mp := ⟨_, rfl⟩
  have HMp := Lib.hid (Nat.le_of_eq hMp)
  have HMp2 := Lib.hid (Nat.le_of_eq hMp.symm)
  rw [hMp] at HPW0 hlP3 ⊢
  clear y0 HW3 hMp HW
  go_wp2
  go_loopw [7, 16] (fun _ z wr => ∃ (j : Nat) (A : List Int) (S : MgS) (G : List (Nd × Int)) (kv nv pv : Value), j ≤ N ∧ z = .int .i64 j ∧ Hid (A.length = j) ∧ Hid (mgA n (l.drop j) A S = R) ∧ Hid (MgInv n A S) ∧ Hid (GInv n S.K G) ∧ Hid (PW wr (Mp + 1) Mp (Mp + 1 + 1) n kv nv pv S.K S.M G S.P) ∧ Hid (Below W0.heap.size W0 wr)) (fun _ z _ => N - (intOf z).toNat)
  case atStart => exact ⟨0, [], mg0, [], _, _, _, by omega, rfl, Lib.hid rfl, HA0, HI0, HG0, HPW0, HB3⟩
  case round =>
    clear HA0 HI0 HG0 HPW0 HB3 x0 x1 x2 ly hz3 hlP3
    obtain ⟨j, A, S, G, kv, nv, pv, hj, rfl, hA, hf, hI, hG, hP, hb⟩ := hrel
    by_cases hjN : j < N
    · have hlk : j < l.length := by rw [Hn.out]; exact hjN
      obtain ⟨x, hx⟩ : ∃ x, l[j] = x := ⟨_, rfl⟩
      have hno := HN.out j hlk
      rw [hx] at hno
      obtain ⟨a0, a1, a2⟩ := (show NdAt wr b (0 + j * 3) x by have h := (HK.out wr hb.out).p0 j hlk; rw [hx] at h; exact h)
      have zb := (HK.out wr hb.out).z0
      simp only [Nat.zero_add] at a0 a1 a2
      have hrel := hI.out.rel (by rw [hA.out]; exact hno)
      obtain ⟨t, htd⟩ : ∃ t, tabOf n A x = t := ⟨_, rfl⟩
      rw [htd] at hrel
      have hkle := hI.out.le
      have hkl := hI.out.kl
      have hpl := hI.out.pl
      rw [hA.out] at hkle hpl
      have hf2 := hf.out
      rw [mgA_step hlk hx, htd] at hf2
      have hI2 : MgInv n (A ++ [t]) (mgStep S x t) := by rw [← htd]; exact hI.out.step (by rw [hA.out]; exact hno)
      have HF2 := Lib.hid hf2
      have HI2 := Lib.hid hI2
      have HA2 : Hid ((A ++ [t]).length = j + 1) := Lib.hid (by rw [List.length_append, hA.out]; rfl)
      obtain ⟨SK, SM, SP⟩ := S
      simp only at hP hkle hkl hpl hG hrel
      have HST := Lib.hid (mgStep_kK SK SM SP x t)
      obtain ⟨y, hy⟩ : ∃ y, relT (atP SP) x = y := ⟨_, rfl⟩
      rw [hy] at hrel HST
      obtain ⟨ix, hix⟩ : ∃ ix, SK.idxOf t = ix := ⟨_, rfl⟩
      rw [hix] at HST
      have Hix := Lib.hid hix
      have hxo : nodeOk n SP.length x = true := by rw [hpl]; exact hno
      have HR1 := Lib.hid (fun W (hW : Below wr.heap.size wr W) => by have h := relinked_list (n : Int) (Mp + 1 + 1 + 1) x SP pv W (hP.out.below hW).p hxo (by omega); rw [hy] at h; exact h)
      have HR2 := Lib.hid hrel
      have HPl := Lib.hid hpl
      have HKl := Lib.hid hkl
      clear hx hno htd hf2 hI2 hf hA hI hy hix hxo hrel hpl hkl
      obtain ⟨w5, hW5⟩ : ∃ w5, wr.alloc (.cells #[.int .i8 x.kind, .int .i16 x.a, .int .i16 x.b] 48) = w5 := ⟨_, rfl⟩
      have k5 : Below wr.heap.size wr w5 := by rw [← hW5]; exact kAlloc (Below.refl _ _) _
      have bN : w5.heap[wr.heap.size]? = some (.cells #[.int .i8 x.kind, .int .i16 x.a, .int .i16 x.b] 48 (0, 0)) := by rw [← hW5]; exact nNew _ _
      have HW5 := Lib.hid hW5
      have HP5 := Lib.hid (hP.out.below k5)
      have HB5 := Lib.hid (kTrans hb.out k5)
      have HR5 := Lib.hid (HR1.out _ k5)
      clear hW5 k5 hP hb HR1
      go_upto_region 6 with fail
      try rw [HW5.out]
      obtain ⟨xg, hxg⟩ : ∃ xg, wr.heap.size = xg := ⟨_, rfl⟩
      rw [hxg] at bN ⊢
      clear a0 a1 a2 zb HW5 hxg
      have n0 : w5.cell? ⟨xg, 0, none⟩ = some (.int .i8 x.kind) := cell_of_row _ _ 0 _ _ _ bN
      have n1 : w5.cell? ⟨xg, 1, none⟩ = some (.int .i16 x.a) := cell_of_row _ _ 1 _ _ _ bN
      have n2 : w5.cell? ⟨xg, 2, none⟩ = some (.int .i16 x.b) := cell_of_row _ _ 2 _ _ _ bN
      have ln := blk_lt bN
      have p0 : w5.cell? ⟨Mp + 1 + 1, 0, none⟩ = some pv := cell_of_row _ _ 0 _ _ _ HP5.out.po
      have lp := blk_lt HP5.out.po
      clear bN
      go_wp2_with fail
      refine (HR5.out).mono ?_
      rintro e w6 ⟨rfl, hb6⟩
      have HP6 := Lib.hid (HP5.out.below hb6)
      have HB6 := Lib.hid (kTrans HB5.out hb6)
      have HKP := Lib.hid (keep_any (Mp + 1) Mp n kv nv SK SM G y w6 HP6.out.kw hn6 HR2.out.1 (by omega) HKl.out hG.out t HR2.out.2 ix Hix.out)
      clear n0 n1 n2 ln p0 lp hb6 HP5 HB5 HR5
      go_wp2_with fail
      refine (HKP.out).mono ?_
      rintro e w7 ⟨rfl, ⟨kv', nv', G', hk7, hg7⟩, hp7⟩
      have HP7 := Lib.hid (HP6.out.keep hk7 hp7)
      have HB7 := Lib.hid (below_keptK HB6.out HP6.out.kw hp7 HMp.out (HB6.out.size))
      have HG7 := Lib.hid hg7
      have HPU := Lib.hid (putS_at (Mp + 1 + 1) 0 (Mp + 1 + 1 + 1) _ 54 pv SP (ix : Int) w7 HP7.out.po rfl (by decide) HP7.out.p (by have := blk_lt HP7.out.po; omega) (by have := HPl.out; omega))
      clear hk7 hg7 hp7 HKP HP6 HB6 hG
      go_wp2_with fail
      refine (HPU.out).mono ?_
      rintro e w8 ⟨rfl, ⟨pv', ho8, hp8'⟩, hk8⟩
      have HP8 := Lib.hid (HP7.out.put hk8 hp8' (by rw [ho8]; rfl))
      have HB8 := Lib.hid (below_keptP HB7.out HP7.out.p hk8 (by have := HMp.out; omega) (by have := HMp.out; omega) (HB7.out.size))
      clear HPU ho8 hp8' hk8 HP7 HB7
      go_wp2
      exact ⟨⟨j + 1, A ++ [t], mgStep ⟨SK, SM, SP⟩ x t, G', _, _, _, by omega, by go_num, HA2, HF2, HI2, Lib.hid (by rw [HST.out]; exact HG7.out), Lib.hid (by rw [HST.out]; exact HP8.out), HB8⟩, by simp [intOf]; omega⟩
    · obtain rfl : j = N := by omega
      obtain rfl : S = R := by rw [← hf.out, mgA_end (by rw [Hn.out]; exact Nat.le_refl _)]
      have hpl : S.P.length = j := by rw [hI.out.pl, hA.out]
      have hml : S.M.length ≤ j := by have h1 := hI.out.le; have h2 := hI.out.kl; rw [hA.out] at h1; omega
      obtain ⟨va, vc, rfl⟩ := owns_slice hP.out.kw.m
      obtain ⟨pg, pc, hpv, -, HSp, hpb, hpc⟩ := row_sh hP.out.p (by omega)
      rw [hpl] at hpv HSp hpc
      subst hpv
      have Hpl := Lib.hid hpl
      have HPP := Lib.hid hP.out.p
      have HMM := Lib.hid hP.out.kw.m
      have y0 := HBX.out _ hb.out
      have lX := blk_lt y0
      have hNx := NwAt.of y0
      have o0 : wr.cell? ⟨Mp + 1, 2, none⟩ = some (.slice va S.M.length vc) := cell_of_row _ _ 2 _ _ _ hP.out.kw.o
      have o1 : wr.cell? ⟨Mp + 1 + 1, 0, none⟩ = some (.slice (some ⟨pg, 0, none⟩) j pc) := cell_of_row _ _ 0 _ _ _ hP.out.po
      have lO := blk_lt hP.out.kw.o
      have lO1 := blk_lt hP.out.po
      have HRO2 := Lib.hid HRO.out
      have HIT := Lib.hid (fun W (hW : Below wr.heap.size wr W) => itemsS_at pg j pc k q ck (atP S.P) p W (HSp.below hW) hpc ((HK.out wr hb.out).below hW).p1 ((HK.out wr hb.out).below hW).z1 Hq.out (by omega) (by omega) (by have := HRO2.out; exact this) L HLL.out)
      have Hhb := hb
      have lpg := HSp.lt
      clear hpl hA hI hG hP y0 hb HSp
      go_upto_region 8 with fail
      refine regionW_of_HM (fun W' => NwAt W' w.heap.size n (.slice (some ⟨b, 0, none⟩) j cb) (.slice (some ⟨k, 0, none⟩) q ck) ∧ W'.cell? ⟨Mp + 1, 2, none⟩ = some (.slice va S.M.length vc) ∧ W'.cell? ⟨Mp + 1 + 1, 0, none⟩ = some (.slice (some ⟨pg, 0, none⟩) j pc)) (by kernel_rfl) ⟨hNx, o0, o1⟩ (fun hHeld => ?_)
      clear o0 o1 hNx
      refine wpAnyH_take (i := 0) (v := .pointer (some ⟨w.heap.size, 0, none⟩)) rfl (by kernel_rfl) (by kernel_rfl) (by kernel_rfl) (fun _ _ _ h => absurd h.1 (by simp)) (Or.inl ⟨by rfl, fun w7 hSw => ?_⟩) (by assumption) ?_
      · clear hSw
        go_simp
      try simp only [Act.put, List.setIfInBounds_toArray, List.set_cons_zero, List.set_cons_succ]
      refine wpAnyH_take (i := 1) (v := .int .i8 (n : Int)) rfl (by kernel_rfl) (by kernel_rfl) (by kernel_rfl) (fun _ _ _ h => absurd h.1 (by simp)) (Or.inl ⟨by rfl, fun w7 hSw => ?_⟩) (by assumption) ?_
      · obtain ⟨⟨x0, x1, x2⟩, o0, o1⟩ := hSw
        go_simp
      try simp only [Act.put, List.setIfInBounds_toArray, List.set_cons_zero, List.set_cons_succ]
      refine wpAnyH_take (i := 2) (v := .pointer (some ⟨Mp + 1, 2, none⟩)) rfl (by kernel_rfl) (by kernel_rfl) (by kernel_rfl) (fun _ _ _ h => absurd h.1 (by simp)) (Or.inl ⟨by rfl, fun w7 hSw => ?_⟩) (by assumption) ?_
      · clear hSw
        go_simp
      try simp only [Act.put, List.setIfInBounds_toArray, List.set_cons_zero, List.set_cons_succ]
      refine wpAnyH_take (i := 3) (v := .slice va S.M.length vc) rfl (by kernel_rfl) (by kernel_rfl) (by kernel_rfl) (fun _ _ _ h => absurd h.1 (by simp)) (Or.inl ⟨by rfl, fun w7 hSw => ?_⟩) (by assumption) ?_
      · obtain ⟨⟨x0, x1, x2⟩, o0, o1⟩ := hSw
        go_simp
      try simp only [Act.put, List.setIfInBounds_toArray, List.set_cons_zero, List.set_cons_succ]
      refine wpAnyH_take (i := 4) (v := .slice (some ⟨pg, 0, none⟩) j pc) rfl (by kernel_rfl) (by kernel_rfl) (by kernel_rfl) (fun _ _ _ h => absurd h.1 (by simp)) (Or.inl ⟨by rfl, fun w7 hSw => ?_⟩) (by assumption) ?_
      · obtain ⟨⟨x0, x1, x2⟩, o0, o1⟩ := hSw
        go_simp
      try simp only [Act.put, List.setIfInBounds_toArray, List.set_cons_zero, List.set_cons_succ]
      refine wpAnyH_take (i := 5) (v := .pointer (some ⟨w.heap.size, 2, none⟩)) rfl (by kernel_rfl) (by kernel_rfl) (by kernel_rfl) (fun _ _ _ h => absurd h.1 (by simp)) (Or.inl ⟨by rfl, fun w7 hSw => ?_⟩) (by assumption) ?_
      · clear hSw
        go_simp
      try simp only [Act.put, List.setIfInBounds_toArray, List.set_cons_zero, List.set_cons_succ]
      refine wpAnyH_take (i := 6) (v := .slice (some ⟨k, 0, none⟩) q ck) rfl (by kernel_rfl) (by kernel_rfl) (by kernel_rfl) (fun _ _ _ h => absurd h.1 (by simp)) (Or.inl ⟨by rfl, fun w7 hSw => ?_⟩) (by assumption) ?_
      · obtain ⟨⟨x0, x1, x2⟩, o0, o1⟩ := hSw
        go_simp
      try simp only [Act.put, List.setIfInBounds_toArray, List.set_cons_zero, List.set_cons_succ]
      refine wpAnyH_take (i := 9) (v := .slice (some ⟨pg, 0, none⟩) j pc) rfl (by kernel_rfl) (by kernel_rfl) (by kernel_rfl) (fun _ _ _ h => absurd h.1 (by simp)) (Or.inl ⟨by rfl, fun w7 hSw => ?_⟩) (by assumption) ?_
      · obtain ⟨⟨x0, x1, x2⟩, o0, o1⟩ := hSw
        go_simp
      try simp only [Act.put, List.setIfInBounds_toArray, List.set_cons_zero, List.set_cons_succ]
      refine wpAnyH_ready (rs := [7]) (by kernel_rfl) (by simp) ?_
      refine AllReadyH.cons rfl (fun K hK => ?_) AllReadyH.nil
      go_simp
      go_wp2_with (go_at_call 28
                   refine (HIT.out _ (Below.drew (Below.refl _ _))).mono ?_
                   rintro e w8 ⟨rfl, hs8, hs9, hs10, hb8⟩
                   obtain ⟨g8, hg8⟩ : ∃ g8, wr.drew.heap.size = g8 := ⟨_, rfl⟩
                   rw [hg8] at hs8 hs9 hs10 ⊢
                   have Hg8 := Lib.hid (show wr.heap.size ≤ g8 from Nat.le_of_eq hg8)
                   have HS8 := Lib.hid hs8
                   have HZ8 := Lib.hid hs9
                   have HF8 := Lib.hid hs10
                   have HB8 := Lib.hid (kTrans (Below.drew (Below.refl wr.heap.size wr)) hb8)
                   have S8 : NwAt w8 w.heap.size n (.slice (some ⟨b, 0, none⟩) j cb) (.slice (some ⟨k, 0, none⟩) q ck) ∧ w8.cell? ⟨Mp + 1, 2, none⟩ = some (.slice va S.M.length vc) ∧ w8.cell? ⟨Mp + 1 + 1, 0, none⟩ = some (.slice (some ⟨pg, 0, none⟩) j pc) := ⟨hHeld.1.below hb8 lX, (hb8.cell (p := ⟨Mp + 1, 2, none⟩) lO).trans hHeld.2.1, (hb8.cell (p := ⟨Mp + 1 + 1, 0, none⟩) lO1).trans hHeld.2.2⟩
                   clear hs8 hs9 hs10 hb8 hg8)
      refine hK.out _ _ S8 (fun hHeld => ?_)
      clear hK K HIT
      refine wpAnyH_take (i := 8) (v := .agg #[.int .i8 (n : Int), .slice va S.M.length vc, .slice (some ⟨g8, 0, none⟩) q q]) rfl (by kernel_rfl) (by kernel_rfl) (by kernel_rfl) (fun _ _ _ h => absurd h.1 (by simp)) (Or.inl ⟨by rfl, fun w7 hSw => ?_⟩) (by assumption) ?_
      · clear hSw
        go_simp
      try simp only [Act.put, List.setIfInBounds_toArray, List.set_cons_zero, List.set_cons_succ]
      have rs_ := HBR.out w8 (kTrans Hhb.out HB8.out)
      have r0 : w8.cell? ⟨w.heap.size + 1, 0, none⟩ = some (.int .i8 0) := cell_of_row _ _ 0 _ _ _ rs_
      have r1 : w8.cell? ⟨w.heap.size + 1, 1, none⟩ = some (.slice none 0 0) := cell_of_row _ _ 1 _ _ _ rs_
      have r2 : w8.cell? ⟨w.heap.size + 1, 2, none⟩ = some (.slice none 0 0) := cell_of_row _ _ 2 _ _ _ rs_
      have q0 : w8.frozen? ⟨w.heap.size + 1, 0, none⟩ = false := frozen_of_row _ _ 0 _ _ rs_
      have q1 : w8.frozen? ⟨w.heap.size + 1, 1, none⟩ = false := frozen_of_row _ _ 1 _ _ rs_
      have q2 : w8.frozen? ⟨w.heap.size + 1, 2, none⟩ = false := frozen_of_row _ _ 2 _ _ rs_
      have lr_ := blk_lt rs_
      have HR3 := Lib.hid (box3_set (x' := .int .i8 (n : Int)) (y' := .slice va S.M.length vc) (z' := .slice (some ⟨g8, 0, none⟩) q q) rs_)
      have hkr : KeptOut (w.heap.size + 1) (w.heap.size + 2) w8 (((w8.setCell ⟨w.heap.size + 1, 0, none⟩ (.int .i8 (n : Int))).setCell ⟨w.heap.size + 1, 1, none⟩ (.slice va S.M.length vc)).setCell ⟨w.heap.size + 1, 2, none⟩ (.slice (some ⟨g8, 0, none⟩) q q)) :=
        (((KeptOut.of_below (Below.refl _ _)).set ⟨w.heap.size + 1, 0, none⟩ (Nat.le_refl _) (Nat.lt_succ_self _) _).set ⟨w.heap.size + 1, 1, none⟩ (Nat.le_refl _) (Nat.lt_succ_self _) _).set ⟨w.heap.size + 1, 2, none⟩ (Nat.le_refl _) (Nat.lt_succ_self _) _
      have hMW : w.heap.size + 2 ≤ Mp := by have := HMp.out; omega
      have hgz : wr.heap.size ≤ g8 := Hg8.out
      have HBB := Lib.hid (kSet (kSet (kSet (kTrans HK0.out (kTrans Hhb.out HB8.out)) (p := ⟨w.heap.size + 1, 0, none⟩) (Nat.le_succ _) (.int .i8 (n : Int))) (p := ⟨w.heap.size + 1, 1, none⟩) (Nat.le_succ _) (.slice va S.M.length vc)) (p := ⟨w.heap.size + 1, 2, none⟩) (Nat.le_succ _) (.slice (some ⟨g8, 0, none⟩) q q))
      have HO1 := Lib.hid ((owns_out_M (owns_below HMM.out HB8.out) hkr (by omega)))
      have HO2 := Lib.hid ((owns_out_M (owns_below HPP.out HB8.out) hkr (by omega)))
      have HO3 : Hid (ShsAt (((w8.setCell ⟨w.heap.size + 1, 0, none⟩ (.int .i8 (n : Int))).setCell ⟨w.heap.size + 1, 1, none⟩ (.slice va S.M.length vc)).setCell ⟨w.heap.size + 1, 2, none⟩ (.slice (some ⟨g8, 0, none⟩) q q)) g8 0 L) := Lib.hid (fun i hi => (hkr.cell (HZ8.out) (.inr (by omega))).trans (HS8.out i hi))
      have HO4 : Hid (g8 < (((w8.setCell ⟨w.heap.size + 1, 0, none⟩ (.int .i8 (n : Int))).setCell ⟨w.heap.size + 1, 1, none⟩ (.slice va S.M.length vc)).setCell ⟨w.heap.size + 1, 2, none⟩ (.slice (some ⟨g8, 0, none⟩) q q)).heap.size) := Lib.hid (Nat.lt_of_lt_of_le HZ8.out hkr.size)
      have HO5 : Hid (∀ j, (((w8.setCell ⟨w.heap.size + 1, 0, none⟩ (.int .i8 (n : Int))).setCell ⟨w.heap.size + 1, 1, none⟩ (.slice va S.M.length vc)).setCell ⟨w.heap.size + 1, 2, none⟩ (.slice (some ⟨g8, 0, none⟩) q q)).frozen? ⟨g8, j, none⟩ = false) := Lib.hid (fun j => (frozen_out_M hkr HZ8.out (by omega)).trans (HF8.out j))
      have S9 : NwAt (((w8.setCell ⟨w.heap.size + 1, 0, none⟩ (.int .i8 (n : Int))).setCell ⟨w.heap.size + 1, 1, none⟩ (.slice va S.M.length vc)).setCell ⟨w.heap.size + 1, 2, none⟩ (.slice (some ⟨g8, 0, none⟩) q q)) w.heap.size n (.slice (some ⟨b, 0, none⟩) j cb) (.slice (some ⟨k, 0, none⟩) q ck) ∧ (((w8.setCell ⟨w.heap.size + 1, 0, none⟩ (.int .i8 (n : Int))).setCell ⟨w.heap.size + 1, 1, none⟩ (.slice va S.M.length vc)).setCell ⟨w.heap.size + 1, 2, none⟩ (.slice (some ⟨g8, 0, none⟩) q q)).cell? ⟨Mp + 1, 2, none⟩ = some (.slice va S.M.length vc) ∧ (((w8.setCell ⟨w.heap.size + 1, 0, none⟩ (.int .i8 (n : Int))).setCell ⟨w.heap.size + 1, 1, none⟩ (.slice va S.M.length vc)).setCell ⟨w.heap.size + 1, 2, none⟩ (.slice (some ⟨g8, 0, none⟩) q q)).cell? ⟨Mp + 1 + 1, 0, none⟩ = some (.slice (some ⟨pg, 0, none⟩) j pc) :=
        ⟨⟨(hkr.cell (by omega) (.inl (Nat.lt_succ_self _))).trans hHeld.1.1, (hkr.cell (by omega) (.inl (Nat.lt_succ_self _))).trans hHeld.1.2.1, (hkr.cell (by omega) (.inl (Nat.lt_succ_self _))).trans hHeld.1.2.2⟩, (hkr.cell (Nat.lt_of_lt_of_le lO HB8.out.size) (.inr (by omega))).trans hHeld.2.1, (hkr.cell (Nat.lt_of_lt_of_le lO1 HB8.out.size) (.inr (by omega))).trans hHeld.2.2⟩
      clear hkr rs_
      refine wpAnyH_ready (rs := [10]) (by kernel_rfl) (by simp) ?_
      refine AllReadyH.cons rfl (fun K hK => ?_) AllReadyH.nil
      go_simp
      refine hK.out _ _ S9 (fun hHeld => ?_)
      clear hK K
      refine wpAnyH_ready (rs := [11]) (by kernel_rfl) (by simp) ?_
      refine AllReadyH.cons rfl (fun K hK => ?_) AllReadyH.nil
      go_simp
      refine hK.out _ _ hHeld (fun hHeld => ?_)
      clear hK K
      refine wpAnyH_done (by kernel_rfl) ?_ _
      refine ⟨rfl, ?_⟩
      clear hHeld r0 r1 r2 q0 q1 q2 S9
      go_wp2
      refine bodyPost_ret (v := .tuple #[.agg #[.int .i8 (n : Int), .slice va S.M.length vc, .slice (some ⟨g8, 0, none⟩) q q], .slice (some ⟨pg, 0, none⟩) j pc]) (results_cell_tmp rfl _ _ (w.heap.size + 1) 30 #[.int .i8 (n : Int), .slice va S.M.length vc, .slice (some ⟨g8, 0, none⟩) q q] (0, 0) _ _ rfl rfl HR3.out Try.underlying30 rfl (by kernel_rfl)) rfl ?_
      exact ⟨_, g8, _, rfl, owns_base_M HO1.out (by omega), owns_base_M HO2.out (by omega), ⟨HO3.out, HO4.out, HO5.out, by omega, fun e => by have e2 : pg = g8 := Option.some.inj e; have := HZ8.out; omega, fun q e => Nat.lt_of_lt_of_le (HMM.out.lt q e).2 Hg8.out⟩, HBB.out⟩
end Go.Proofs.Ytdnjamlibnmpfaa
