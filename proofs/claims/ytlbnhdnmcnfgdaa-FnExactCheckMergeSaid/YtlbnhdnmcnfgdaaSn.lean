/- SameNetwork: both sides. -/
import Derived.Test.YtlbnhdnmcnfgdaaEqNd
namespace Go.Proofs.Ytlbnhdnmcnfgdaa
open Go.ChangeShapes Go.WideShapes Go.ChangeAt Go.RowKit Go.Joins Go.Deep
set_option linter.unusedVariables false
set_option linter.unusedSimpArgs false

def sameN (ni nj : Int) (l l' : List Nd) (p p' : List Int) : Bool := decide (ni = nj) && decide (l = l') && decide (p = p')
theorem NK.slN {w : World} {b k : Nat} {l : List Nd} {p : List Int} (h : NK w b k l p) : SlNd w l (.slice (some ⟨b, 0, none⟩) l.length l.length) := .mk b 0 _ h.p0 h.z0 (Nat.le_refl _)
theorem NK.slS {w : World} {b k : Nat} {l : List Nd} {p : List Int} (h : NK w b k l p) : SlSh w p (.slice (some ⟨k, 0, none⟩) p.length p.length) := .mk k 0 _ h.p1 h.z1 (Nat.le_refl _)
set_option maxRecDepth 100000 in
set_option maxHeartbeats 4000000 in
theorem implSameNetwork_any (b k b' k' : Nat) (ni nj : Int) (l l' : List Nd) (p p' : List Int) (w : World) (h : NK w b k l p) (h' : NK w b' k' l' p') (h8 : NdsWf l) (h8' : NdsWf l') (m0 : l.length ≤ 1048576) (m1 : p.length ≤ 1048576) (m0' : l'.length ≤ 1048576) (m1' : p'.length ≤ 1048576) (R : Bool) (hR : R = sameN ni nj l l' p p') :
    Calls Try.prog 18 #[.agg #[.int .i8 ni, .slice (some ⟨b, 0, none⟩) l.length l.length, .slice (some ⟨k, 0, none⟩) p.length p.length], .agg #[.int .i8 nj, .slice (some ⟨b', 0, none⟩) l'.length l'.length, .slice (some ⟨k', 0, none⟩) p'.length p'.length]] w fun e w' => e = .returned (.bool R) ∧ Below w.heap.size w w' := by
  obtain ⟨W, hW⟩ : ∃ W, (w.alloc (.cells #[.int .i8 ni, .slice (some ⟨b, 0, none⟩) l.length l.length, .slice (some ⟨k, 0, none⟩) p.length p.length] 31)).alloc (.cells #[.int .i8 nj, .slice (some ⟨b', 0, none⟩) l'.length l'.length, .slice (some ⟨k', 0, none⟩) p'.length p'.length] 31) = W := ⟨_, rfl⟩
  have kW : Below w.heap.size w W := by rw [← hW]; exact kAlloc (kAlloc (Below.refl _ _) _) _
  have gA : NwAt W w.heap.size ni (.slice (some ⟨b, 0, none⟩) l.length l.length) (.slice (some ⟨k, 0, none⟩) p.length p.length) := by rw [← hW]; exact (NwAt.box w ni _ _ 31).below (kAlloc (Below.refl _ _) _) (by simp)
  have gB : NwAt W (w.heap.size + 1) nj (.slice (some ⟨b', 0, none⟩) l'.length l'.length) (.slice (some ⟨k', 0, none⟩) p'.length p'.length) := by
    rw [← hW]
    have h := NwAt.box (w.alloc (.cells #[.int .i8 ni, .slice (some ⟨b, 0, none⟩) l.length l.length, .slice (some ⟨k, 0, none⟩) p.length p.length] 31)) nj (.slice (some ⟨b', 0, none⟩) l'.length l'.length) (.slice (some ⟨k', 0, none⟩) p'.length p'.length) 31
    simpa only [World.size_alloc] using h
  have la := gA.lt
  have lb := gB.lt
  have GA := Lib.hid (fun W2 (h2 : Below W.heap.size W W2) => gA.below h2 la)
  have GB := Lib.hid (fun W2 (h2 : Below W.heap.size W W2) => gB.below h2 lb)
  have HA := Lib.hid (h.below kW)
  have HB := Lib.hid (h'.below kW)
  have HW := Lib.hid hW
  obtain ⟨x0, x1, x2⟩ := gA
  obtain ⟨y0, y1, y2⟩ := gB
  have Hnl := Lib.hid (fun W2 (h2 : Below W.heap.size W W2) (Q : Bool) (hQ : decide (l = l') = Q) => NodesEqual_any _ _ l l' W2 (HA.out.below h2).slN (HB.out.below h2).slN m0 m0' Q hQ)
  have Hsl := Lib.hid (fun W2 (h2 : Below W.heap.size W W2) (Q : Bool) (hQ : decide (p = p') = Q) => ShortsEqual_any _ _ p p' W2 (HA.out.below h2).slS (HB.out.below h2).slS m1 m1' Q hQ)
  clear hW h h' h8 h8'
  by_cases c0 : ni = nj
  · have c0' : (ni == nj) = true := by simpa using c0
    have C0 := Lib.hid c0
    clear c0
    cases c1 : decide (l = l') with
    | true =>
      cases c2 : decide (p = p') with
      | true =>
        obtain rfl : R = true := by rw [hR]; unfold sameN; rw [c1, c2]; simpa using C0.out
        have C1 := Lib.hid (Hnl.out W (Below.refl _ _) true c1)
        clear hR
        go_enter Try.func18, Try.ntmps18
        go_upto_region 1 with fail
        try rw [HW.out]
        go_wp2_with fail
        refine C1.out.mono ?_
        rintro e w1 ⟨rfl, hb1⟩
        have C2 := Lib.hid (Hsl.out w1 hb1 true c2)
        clear x0 x1 x2 y0 y1 y2
        obtain ⟨x0, x1, x2⟩ := GA.out w1 hb1
        obtain ⟨y0, y1, y2⟩ := GB.out w1 hb1
        have kW1 := kTrans kW hb1
        go_wp2_with fail
        refine C2.out.mono ?_
        rintro e w2 ⟨rfl, hb2⟩
        clear x0 x1 x2 y0 y1 y2
        go_wp2
        go_ret
        exact ⟨rfl, kTrans kW1 hb2⟩
      | false =>
        obtain rfl : R = false := by rw [hR]; unfold sameN; rw [c2]; simp
        have C1 := Lib.hid (Hnl.out W (Below.refl _ _) true c1)
        clear hR
        go_enter Try.func18, Try.ntmps18
        go_upto_region 1 with fail
        try rw [HW.out]
        go_wp2_with fail
        refine C1.out.mono ?_
        rintro e w1 ⟨rfl, hb1⟩
        have C2 := Lib.hid (Hsl.out w1 hb1 false c2)
        clear x0 x1 x2 y0 y1 y2
        obtain ⟨x0, x1, x2⟩ := GA.out w1 hb1
        obtain ⟨y0, y1, y2⟩ := GB.out w1 hb1
        have kW1 := kTrans kW hb1
        go_wp2_with fail
        refine C2.out.mono ?_
        rintro e w2 ⟨rfl, hb2⟩
        clear x0 x1 x2 y0 y1 y2
        go_wp2
        go_ret
        exact ⟨rfl, kTrans kW1 hb2⟩
    | false =>
      obtain rfl : R = false := by rw [hR]; unfold sameN; rw [c1]; simp
      have C1 := Lib.hid (Hnl.out W (Below.refl _ _) false c1)
      clear hR
      go_enter Try.func18, Try.ntmps18
      go_upto_region 1 with fail
      try rw [HW.out]
      go_wp2_with fail
      refine C1.out.mono ?_
      rintro e w1 ⟨rfl, hb1⟩
      have kW1 := kTrans kW hb1
      clear x0 x1 x2 y0 y1 y2
      go_wp2
      go_ret
      exact ⟨rfl, kW1⟩
  · have c0' : (ni == nj) = false := by simpa using c0
    obtain rfl : R = false := by rw [hR]; unfold sameN; simp [c0]
    clear hR
    go_enter Try.func18, Try.ntmps18
    go_upto_region 1 with fail
    try rw [HW.out]
    go_wp2
    go_ret
    exact ⟨rfl, kW⟩
set_option maxRecDepth 100000 in
set_option maxHeartbeats 8000000 in
theorem specSameNetwork_any (b k b' k' : Nat) (ni nj : Int) (l l' : List Nd) (p p' : List Int) (w : World) (h : NK w b k l p) (h' : NK w b' k' l' p') (h8 : NdsWf l) (h8' : NdsWf l') (m0 : l.length ≤ 1048576) (m1 : p.length ≤ 1048576) (m0' : l'.length ≤ 1048576) (m1' : p'.length ≤ 1048576) (R : Bool) (hR : R = sameN ni nj l l' p p') :
    Calls Try.prog 17 #[.agg #[.int .i8 ni, .slice (some ⟨b, 0, none⟩) l.length l.length, .slice (some ⟨k, 0, none⟩) p.length p.length], .agg #[.int .i8 nj, .slice (some ⟨b', 0, none⟩) l'.length l'.length, .slice (some ⟨k', 0, none⟩) p'.length p'.length]] w fun e w' => e = .returned (.bool R) ∧ Below w.heap.size w w' := by
  obtain ⟨W, hW⟩ : ∃ W, (w.alloc (.cells #[.int .i8 ni, .slice (some ⟨b, 0, none⟩) l.length l.length, .slice (some ⟨k, 0, none⟩) p.length p.length] 31)).alloc (.cells #[.int .i8 nj, .slice (some ⟨b', 0, none⟩) l'.length l'.length, .slice (some ⟨k', 0, none⟩) p'.length p'.length] 31) = W := ⟨_, rfl⟩
  have kW : Below w.heap.size w W := by rw [← hW]; exact kAlloc (kAlloc (Below.refl _ _) _) _
  have gA : NwAt W w.heap.size ni (.slice (some ⟨b, 0, none⟩) l.length l.length) (.slice (some ⟨k, 0, none⟩) p.length p.length) := by rw [← hW]; exact (NwAt.box w ni _ _ 31).below (kAlloc (Below.refl _ _) _) (by simp)
  have gB : NwAt W (w.heap.size + 1) nj (.slice (some ⟨b', 0, none⟩) l'.length l'.length) (.slice (some ⟨k', 0, none⟩) p'.length p'.length) := by
    rw [← hW]
    have h := NwAt.box (w.alloc (.cells #[.int .i8 ni, .slice (some ⟨b, 0, none⟩) l.length l.length, .slice (some ⟨k, 0, none⟩) p.length p.length] 31)) nj (.slice (some ⟨b', 0, none⟩) l'.length l'.length) (.slice (some ⟨k', 0, none⟩) p'.length p'.length) 31
    simpa only [World.size_alloc] using h
  have la := gA.lt
  have lb := gB.lt
  have GA := Lib.hid (fun W2 (h2 : Below W.heap.size W W2) => gA.below h2 la)
  have GB := Lib.hid (fun W2 (h2 : Below W.heap.size W W2) => gB.below h2 lb)
  have HA := Lib.hid (h.below kW)
  have HB := Lib.hid (h'.below kW)
  have HW := Lib.hid hW
  obtain ⟨x0, x1, x2⟩ := gA
  obtain ⟨y0, y1, y2⟩ := gB
  clear hW h h' h8 h8'
  by_cases c0 : ni = nj
  · have c0' : (ni == nj) = true := by simpa using c0
    have C0 := Lib.hid c0
    clear c0
    by_cases c1 : l.length = l'.length
    · by_cases c2 : p.length = p'.length
      · have hgm : Try.prog.eqGuardType Try.prog.depth 83 = false := by kernel_rfl
        have hR2 : Hid ((decide (l.drop 0 = l'.drop 0) && decide (p = p')) = R) := Lib.hid (by rw [hR]; unfold sameN; simp [C0.out])
        obtain ⟨n, hn⟩ : ∃ n, l.length = n := ⟨_, rfl⟩
        obtain ⟨q, hq⟩ : ∃ q, p.length = q := ⟨_, rfl⟩
        have Hn := Lib.hid hn
        have Hq := Lib.hid hq
        have Hn' := Lib.hid (c1.symm.trans hn)
        have Hq' := Lib.hid (c2.symm.trans hq)
        rw [← c1, ← c2, hn, hq] at HW GB ⊢
        rw [hn, hq] at GA
        rw [← c1, hn] at y1
        rw [← c2, hq] at y2
        rw [hn] at x1 m0
        rw [hq] at x2 m1
        clear hR c1 c2 hn hq m0' m1'
        go_enter Try.func17, Try.ntmps17
        go_upto_region 1 with fail
        try rw [HW.out]
        go_wp2
        clear x0 x1 x2 y0 y1 y2
        go_loopw [5] (fun i wr => ∃ j : Nat, j ≤ n ∧ i = .int .i64 j ∧ Hid ((decide (l.drop j = l'.drop j) && decide (p = p')) = R) ∧ Below W.heap.size W wr) (fun i _ => n - (intOf i).toNat)
        case atStart => exact ⟨0, by omega, rfl, hR2, Below.refl _ _⟩
        case round =>
          clear hR2
          obtain ⟨j, hj, rfl, hf, hbr⟩ := hrel
          obtain ⟨x0, x1, x2⟩ := GA.out wr hbr
          obtain ⟨y0, y1, y2⟩ := GB.out wr hbr
          have zA := Nat.lt_of_lt_of_le la hbr.size
          have zB := Nat.lt_of_lt_of_le lb hbr.size
          by_cases hlt : j < n
          · have hlk1 : j < l.length := by rw [Hn.out]; exact hlt
            have hlk2 : j < l'.length := by rw [Hn'.out]; exact hlt
            have hp1 := (HA.out.below hbr).p0 j hlk1
            have hp2 := (HB.out.below hbr).p0 j hlk2
            have hz1 := (HA.out.below hbr).z0
            have hz2 := (HB.out.below hbr).z0
            have hd1 : l.drop j = l[j] :: l.drop (j + 1) := List.drop_eq_getElem_cons hlk1
            have hd2 : l'.drop j = l'[j] :: l'.drop (j + 1) := List.drop_eq_getElem_cons hlk2
            generalize l[j] = x at hp1 hd1
            generalize l'[j] = y at hp2 hd2
            have hq := hf.out
            rw [hd1, hd2] at hq
            have he := Nd_eq x y
            obtain ⟨a0, a1, a2⟩ := hp1
            obtain ⟨d0, d1, d2⟩ := hp2
            simp only [Nat.zero_add] at a0 a1 a2 d0 d1 d2
            by_cases hpq : x = y
            · have hR3 : Hid ((decide (l.drop (j + 1) = l'.drop (j + 1)) && decide (p = p')) = R) := Lib.hid (by rw [← hq]; simp [hpq])
              rw [show decide (x = y) = true by simpa using hpq] at he
              clear hf hd1 hd2 hq hpq
              go_wp2
              go_quiet (fail)
              go_wp2
              exact ⟨⟨j + 1, by omega, by go_num, hR3, kDrewN hbr _⟩, by simp [intOf]; omega⟩
            · obtain rfl : R = false := by rw [← hq]; simp [hpq]
              rw [show decide (x = y) = false by simpa using hpq] at he
              clear hf hd1 hd2 hq hpq
              go_wp2
              go_quiet (fail)
              go_wp2
              go_ret
              exact ⟨rfl, kDrewN (kTrans kW hbr) _⟩
          · obtain rfl : j = n := by omega
            have hR3 : Hid (decide (p.drop 0 = p'.drop 0) = R) := Lib.hid (by rw [← hf.out, List.drop_of_length_le (l := l) (by rw [Hn.out]; omega), List.drop_of_length_le (l := l') (by rw [Hn'.out]; omega)]; simp)
            clear hf hlt
            obtain ⟨wo, rfl⟩ : ∃ wo : World, wo = wr := ⟨_, rfl⟩
            go_wp2
            clear x0 x1 x2 y0 y1 y2 zA zB
            go_loopw [6] (fun i wr => ∃ m : Nat, m ≤ q ∧ i = .int .i64 m ∧ Hid (decide (p.drop m = p'.drop m) = R) ∧ Below W.heap.size W wr) (fun i _ => q - (intOf i).toNat)
            case atStart => exact ⟨0, by omega, rfl, hR3, hbr⟩
            case round =>
              clear hR3
              obtain ⟨m, hm, rfl, hf, hbr2⟩ := hrel
              obtain ⟨x0, x1, x2⟩ := GA.out wr hbr2
              obtain ⟨y0, y1, y2⟩ := GB.out wr hbr2
              have zA := Nat.lt_of_lt_of_le la hbr2.size
              have zB := Nat.lt_of_lt_of_le lb hbr2.size
              by_cases hlt : m < q
              · have hlk1 : m < p.length := by rw [Hq.out]; exact hlt
                have hlk2 : m < p'.length := by rw [Hq'.out]; exact hlt
                have hp1 := (HA.out.below hbr2).p1 m hlk1
                have hp2 := (HB.out.below hbr2).p1 m hlk2
                have hz1 := (HA.out.below hbr2).z1
                have hz2 := (HB.out.below hbr2).z1
                have hd1 : p.drop m = p[m] :: p.drop (m + 1) := List.drop_eq_getElem_cons hlk1
                have hd2 : p'.drop m = p'[m] :: p'.drop (m + 1) := List.drop_eq_getElem_cons hlk2
                generalize p[m] = x at hp1 hd1
                generalize p'[m] = y at hp2 hd2
                simp only [Nat.zero_add] at hp1 hp2
                have hq := hf.out
                rw [hd1, hd2] at hq
                by_cases hpq : x = y
                · have hR4 : Hid (decide (p.drop (m + 1) = p'.drop (m + 1)) = R) := Lib.hid (by rw [← hq]; simp [hpq])
                  have he : (x == y) = true := by simpa using hpq
                  clear hf hd1 hd2 hq
                  subst hpq
                  go_wp2
                  go_quiet (fail)
                  go_wp2
                  exact ⟨⟨m + 1, by omega, by go_num, hR4, kDrewN hbr2 _⟩, by simp [intOf]; omega⟩
                · obtain rfl : R = false := by rw [← hq]; simp [hpq]
                  have he : (x == y) = false := by simpa using hpq
                  clear hf hd1 hd2 hq
                  go_wp2
                  go_quiet (fail)
                  go_wp2
                  go_ret
                  exact ⟨rfl, kDrewN (kTrans kW hbr2) _⟩
              · obtain rfl : R = true := by rw [← hf.out, List.drop_of_length_le (l := p) (by rw [Hq.out]; omega), List.drop_of_length_le (l := p') (by rw [Hq'.out]; omega)]; simp
                clear hf
                go_wp2
                go_ret
                exact ⟨rfl, kTrans kW hbr2⟩
      · obtain rfl : R = false := by rw [hR]; unfold sameN; rw [decide_eq_false (show ¬ p = p' from fun e => c2 (by rw [e]))]; simp
        have c1' : ((l.length : Int) == (l'.length : Int)) = true := by simp; omega
        have c1'' : ((l.length : Int) != (l'.length : Int)) = false := by simp; omega
        have c2' : ((p.length : Int) == (p'.length : Int)) = false := by simp; omega
        have c2'' : ((p.length : Int) != (p'.length : Int)) = true := by simp; omega
        clear c1 c2
        clear hR
        go_enter Try.func17, Try.ntmps17
        go_upto_region 1 with fail
        try rw [HW.out]
        go_wp2
        go_ret
        exact ⟨rfl, kW⟩
    · obtain rfl : R = false := by rw [hR]; unfold sameN; rw [decide_eq_false (show ¬ l = l' from fun e => c1 (by rw [e]))]; simp
      have c1' : ((l.length : Int) == (l'.length : Int)) = false := by simp; omega
      have c1'' : ((l.length : Int) != (l'.length : Int)) = true := by simp; omega
      clear hR
      go_enter Try.func17, Try.ntmps17
      go_upto_region 1 with fail
      try rw [HW.out]
      go_wp2
      go_ret
      exact ⟨rfl, kW⟩
  · have c0' : (ni == nj) = false := by simpa using c0
    obtain rfl : R = false := by rw [hR]; unfold sameN; simp [c0]
    clear hR
    go_enter Try.func17, Try.ntmps17
    go_upto_region 1 with fail
    try rw [HW.out]
    go_wp2
    go_ret
    exact ⟨rfl, kW⟩
end Go.Proofs.Ytlbnhdnmcnfgdaa
