/- CheckMerge: haveTables. -/
import Derived.Test.YtlbnhdnmcnfgdaaCm0
namespace Go.Proofs.Ytlbnhdnmcnfgdaa
open Go.ChangeShapes Go.WideShapes Go.ChangeAt Go.RowKit Go.Joins Go.Deep
set_option linter.unusedVariables false
set_option linter.unusedSimpArgs false

set_option maxRecDepth 100000 in
set_option maxHeartbeats 8000000 in
theorem haveTables_any (n n' b k b' k' qb : Nat) (l l' : List Nd) (p p' q : List Int) (w : World) (h : NK w b k l p) (hok : netOk n l p = true) (h' : NK w b' k' l' p') (hok' : netOk n' l' p' = true) (hq : InsAt w qb 0 q) (zq : qb < w.heap.size) (hlq : q.length = l.length) (F : Bool) (hF : haveT (tabsL n' l' []) q (tabsL n l []) = F) :
    Calls Try.prog 69 #[.agg #[.int .i8 n, .slice (some ⟨b, 0, none⟩) l.length l.length, .slice (some ⟨k, 0, none⟩) p.length p.length], .agg #[.int .i8 n', .slice (some ⟨b', 0, none⟩) l'.length l'.length, .slice (some ⟨k', 0, none⟩) p'.length p'.length], .slice (some ⟨qb, 0, none⟩) q.length q.length] w fun e w' => e = .returned (.bool F) ∧ Below w.heap.size w w' := by
  obtain ⟨W, hW⟩ : ∃ W, (w.alloc (.cells #[.int .i8 n, .slice (some ⟨b, 0, none⟩) l.length l.length, .slice (some ⟨k, 0, none⟩) p.length p.length] 31)).alloc (.cells #[.int .i8 n', .slice (some ⟨b', 0, none⟩) l'.length l'.length, .slice (some ⟨k', 0, none⟩) p'.length p'.length] 31) = W := ⟨_, rfl⟩
  have kW : Below w.heap.size w W := by rw [← hW]; exact kAlloc (kAlloc (Below.refl _ _) _) _
  have gA : NwAt W w.heap.size n (.slice (some ⟨b, 0, none⟩) l.length l.length) (.slice (some ⟨k, 0, none⟩) p.length p.length) := by rw [← hW]; exact (NwAt.box w n _ _ 31).below (kAlloc (Below.refl _ _) _) (by simp)
  have gB : NwAt W (w.heap.size + 1) n' (.slice (some ⟨b', 0, none⟩) l'.length l'.length) (.slice (some ⟨k', 0, none⟩) p'.length p'.length) := by
    rw [← hW]
    have h := NwAt.box (w.alloc (.cells #[.int .i8 n, .slice (some ⟨b, 0, none⟩) l.length l.length, .slice (some ⟨k, 0, none⟩) p.length p.length] 31)) n' (.slice (some ⟨b', 0, none⟩) l'.length l'.length) (.slice (some ⟨k', 0, none⟩) p'.length p'.length) 31
    simpa only [World.size_alloc] using h
  have la := gA.lt
  have lb := gB.lt
  have HTa := Lib.hid (fun W2 (h2 : Below w.heap.size w W2) => tables_any n b k l p W2 (h.below h2) hok)
  have HTb := Lib.hid (fun W2 (h2 : Below w.heap.size w W2) => tables_any n' b' k' l' p' W2 (h'.below h2) hok')
  have hp := netOk_parts hok
  have hp' := netOk_parts hok'
  have hTl : (tabsL n l []).length = l.length := by rw [tabsL_length]; simp
  have hTl' : (tabsL n' l' []).length = l'.length := by rw [tabsL_length]; simp
  obtain ⟨T, hT⟩ : ∃ T, tabsL n l [] = T := ⟨_, rfl⟩
  obtain ⟨T', hT'⟩ : ∃ T', tabsL n' l' [] = T' := ⟨_, rfl⟩
  rw [hT] at HTa hTl hF
  rw [hT'] at HTb hTl' hF
  obtain ⟨t, ht⟩ : ∃ t, T'.length = t := ⟨_, rfl⟩
  obtain ⟨nq, hnq⟩ : ∃ nq, q.length = nq := ⟨_, rfl⟩
  have Hpos := Lib.hid (show 0 < T.length ∧ 0 < T'.length by omega)
  have HTq := Lib.hid (show T.length = nq by omega)
  have Hnq := Lib.hid hnq
  have Ht := Lib.hid ht
  have ht80 : t ≤ 80 := by omega
  have nq80 : nq ≤ 80 := by omega
  have HQ := Lib.hid (fun W2 (h2 : Below w.heap.size w W2) => hq.below h2 zq)
  have HF0 : Hid (haveT T' (q.drop 0) (T.drop 0) = F) := Lib.hid hF
  have HW := Lib.hid hW
  rw [hnq]
  obtain ⟨x0, x1, x2⟩ := gA
  obtain ⟨y0, y1, y2⟩ := gB
  clear hW h hok h' hok' hq hlq hF hp hp' hTl hTl' hT hT' ht hnq
  go_enter Try.func69, Try.ntmps69
  go_upto_region 1 with fail
  try rw [HW.out]
  go_region_held3 (fun w' => w'.cell? ⟨w.heap.size, 0, none⟩ = some (.int .i8 n) ∧ w'.cell? ⟨w.heap.size, 1, none⟩ = some (.slice (some ⟨b, 0, none⟩) l.length l.length) ∧ w'.cell? ⟨w.heap.size, 2, none⟩ = some (.slice (some ⟨k, 0, none⟩) p.length p.length) ∧ w'.cell? ⟨w.heap.size + 1, 0, none⟩ = some (.int .i8 n') ∧ w'.cell? ⟨w.heap.size + 1, 1, none⟩ = some (.slice (some ⟨b', 0, none⟩) l'.length l'.length) ∧ w'.cell? ⟨w.heap.size + 1, 2, none⟩ = some (.slice (some ⟨k', 0, none⟩) p'.length p'.length)) (go_keep)
    (first
    | (go_at_call 65
       refine (HTb.out _ (kTrans kW kv1)).mono ?_
       rintro e v2 ⟨u2, rfl, hu2, b2⟩
       obtain ⟨ub, cb, rfl⟩ := hu2.form
       have HuB := Lib.hid hu2.sl
       have HuA2 := Lib.hid (HuA.out.below b2)
       have kv2 := kTrans kv1 b2
       have la1 := Nat.lt_of_lt_of_le la kv1.size
       have lb1 := Nat.lt_of_lt_of_le lb kv1.size
       have x0 := (b2.cell (p := ⟨w.heap.size, 0, none⟩) la1).trans x0
       have x1 := (b2.cell (p := ⟨w.heap.size, 1, none⟩) la1).trans x1
       have x2 := (b2.cell (p := ⟨w.heap.size, 2, none⟩) la1).trans x2
       have y0 := (b2.cell (p := ⟨w.heap.size + 1, 0, none⟩) lb1).trans y0
       have y1 := (b2.cell (p := ⟨w.heap.size + 1, 1, none⟩) lb1).trans y1
       have y2 := (b2.cell (p := ⟨w.heap.size + 1, 2, none⟩) lb1).trans y2
       clear hu2)
    | (go_at_call 65
       refine (HTa.out _ (kTrans kW (by first | exact Below.refl _ _ | exact Below.drew (Below.refl _ _)))).mono ?_
       rintro e v1 ⟨u1, rfl, hu1, b1⟩
       obtain ⟨ua, ca, rfl⟩ := hu1.form
       have HuA := Lib.hid hu1.sl
       have kv1 : Below W.heap.size W v1 := kTrans (show Below W.heap.size W _ by first | exact Below.refl _ _ | exact Below.drew (Below.refl _ _)) b1
       have x0 := (b1.cell (p := ⟨w.heap.size, 0, none⟩) la).trans x0
       have x1 := (b1.cell (p := ⟨w.heap.size, 1, none⟩) la).trans x1
       have x2 := (b1.cell (p := ⟨w.heap.size, 2, none⟩) la).trans x2
       have y0 := (b1.cell (p := ⟨w.heap.size + 1, 0, none⟩) lb).trans y0
       have y1 := (b1.cell (p := ⟨w.heap.size + 1, 1, none⟩) lb).trans y1
       have y2 := (b1.cell (p := ⟨w.heap.size + 1, 2, none⟩) lb).trans y2
       clear hu1))
  obtain ⟨g, o, rfl, eC, eG, eL, _⟩ := slUs_some HuA2.out Hpos.out.1
  obtain ⟨g', o', rfl, eC', eG', eL', _⟩ := slUs_some HuB.out Hpos.out.2
  have HC := Lib.hid eC
  have HC' := Lib.hid eC'
  have T2 := kTrans kW kv2
  rw [HTq.out, Ht.out]
  clear eC eC' eL eL' HuA2 HuB HuA kv1 b1 b2 kv2 la1 lb1 x0 x1 x2 y0 y1 y2 la lb kW HTa HTb HW Hpos
  go_wp2
  go_loopw [9, 10, 17] (fun _ _ i wr => ∃ j : Nat, j ≤ nq ∧ i = .int .i64 j ∧ Hid (haveT T' (q.drop j) (T.drop j) = F) ∧ Below v2.heap.size v2 wr) (fun _ _ i _ => nq - (intOf i).toNat)
  case atStart => exact ⟨0, by omega, rfl, HF0, by first | exact Below.refl _ _ | exact Below.drew (Below.refl _ _)⟩
  case round =>
    clear HF0
    obtain ⟨j, hj, rfl, hf, hbr⟩ := hrel
    have Tr := kTrans T2 hbr
    by_cases hlt : j < nq
    · have hlk : j < q.length := by rw [Hnq.out]; exact hlt
      have hlT : j < T.length := by rw [HTq.out]; exact hlt
      have cq := (HQ.out wr Tr) j hlk
      have ct := (HC.out.below hbr eG) j hlT
      have hf2 := hf.out
      rw [haveT_drop hlk hlT] at hf2
      have kq := Nat.lt_of_lt_of_le zq Tr.size
      have kg := Nat.lt_of_lt_of_le eG hbr.size
      have kg' := Nat.lt_of_lt_of_le eG' hbr.size
      generalize q[j] = x at cq hf2
      generalize T[j] = y at ct hf2
      rw [Ht.out] at hf2
      simp only [Nat.zero_add] at cq
      clear hf
      by_cases c0 : 0 ≤ x
      · by_cases c1 : x < t
        · obtain ⟨kx, rfl⟩ : ∃ kx : Nat, x = kx := ⟨x.toNat, by omega⟩
          have hkT : kx < T'.length := by rw [Ht.out]; omega
          have hkt : kx < t := by omega
          have cu := (HC'.out.below hbr eG') kx hkT
          rw [Int.toNat_natCast, getD_at hkT] at hf2
          generalize T'[kx] = z at cu hf2
          have d0 : decide ((kx : Int) < 0) = false := by simp
          have d1 : decide ((t : Int) ≤ (kx : Int)) = false := by simp; omega
          have d1' : decide (t ≤ kx) = false := by simp; omega
          have d2 : ¬ t ≤ kx := by omega
          by_cases c2 : y = z
          · have hf3 : Hid (haveT T' (q.drop (j + 1)) (T.drop (j + 1)) = F) := Lib.hid (by rw [← hf2]; simp [c0, c1, c2])
            have c2' : (y == z) = true := by simpa using c2
            clear hf2 c2
            go_wp2
            go_quiet (fail)
            go_wp2
            exact ⟨⟨j + 1, by omega, by go_num, hf3, kDrewN hbr _⟩, by simp [intOf]; omega⟩
          · obtain rfl : F = false := by rw [← hf2]; simp [c2]
            have c2' : (y == z) = false := by simpa using c2
            clear hf2 c2
            go_wp2
            go_quiet (fail)
            go_wp2
            go_ret
            exact ⟨rfl, kDrewN Tr _⟩
        · obtain rfl : F = false := by rw [← hf2]; simp [c1]
          have c1' : decide (x < 0) = false := by simp; omega
          have c1'' : decide ((t : Int) ≤ x) = true := by simp; omega
          clear hf2 c1
          go_wp2
          go_quiet (fail)
          go_wp2
          go_ret
          exact ⟨rfl, kDrewN Tr _⟩
      · obtain rfl : F = false := by rw [← hf2]; simp [c0]
        have c0' : decide (x < 0) = true := by simp; omega
        clear hf2 c0
        go_wp2
        go_quiet (fail)
        go_wp2
        go_ret
        exact ⟨rfl, kDrewN Tr _⟩
    · obtain rfl : j = nq := by omega
      obtain rfl : F = true := by rw [← hf.out]; exact haveT_end (by rw [Hnq.out]; exact Nat.le_refl _)
      clear hf
      go_wp2
      go_ret
      exact ⟨rfl, Tr⟩
end Go.Proofs.Ytlbnhdnmcnfgdaa
