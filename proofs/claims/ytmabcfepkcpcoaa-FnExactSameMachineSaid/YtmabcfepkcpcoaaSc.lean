/- SameMachine: the program and the model. -/
import Derived.Test.YtmabcfepkcpcoaaMc
import Derived.Test.YtmabcfepkcpcoaaSm
import Derived.Test.YtmabcfepkcpcoaaEqPo
import Derived.Test.YtmabcfepkcpcoaaEqCl
namespace Go.Proofs.Ytmabcfepkcpcoaa
open Go.ChangeShapes Go.WideShapes Go.ChangeAt Go.RowKit
set_option linter.unusedVariables false
set_option linter.unusedSimpArgs false

def sameM (wd hi : Int) (l : List Pc) (p : List Po) (c : List Cl) (wd' hi' : Int) (l' : List Pc) (p' : List Po) (c' : List Cl) : Bool := sameB wd hi l wd' hi' l' && decide (p = p') && decide (c = c')
set_option maxRecDepth 100000 in
set_option maxHeartbeats 4000000 in
theorem implSameMachine_any (b k q b' k' q' : Nat) (wd hi wd' hi' : Int) (l l' : List Pc) (p p' : List Po) (c c' : List Cl) (w : World) (h : PcsAt w b 0 l) (h' : PcsAt w b' 0 l') (g : PosAt w k 0 p) (g' : PosAt w k' 0 p') (j : ClsAt w q 0 c) (j' : ClsAt w q' 0 c')
    (zb : b < w.heap.size) (zb' : b' < w.heap.size) (zk : k < w.heap.size) (zk' : k' < w.heap.size) (zq : q < w.heap.size) (zq' : q' < w.heap.size) (m0 : l.length ≤ 1048576) (m0' : l'.length ≤ 1048576) (m1 : p.length ≤ 1048576) (m1' : p'.length ≤ 1048576) (m2 : c.length ≤ 1048576) (m2' : c'.length ≤ 1048576) (R : Bool) (hR : sameM wd hi l p c wd' hi' l' p' c' = R) :
    Calls Try.prog 12 #[.agg #[.int .i8 wd, .int .i8 hi, .slice (some ⟨b, 0, none⟩) l.length l.length, .slice (some ⟨k, 0, none⟩) p.length p.length, .slice (some ⟨q, 0, none⟩) c.length c.length], .agg #[.int .i8 wd', .int .i8 hi', .slice (some ⟨b', 0, none⟩) l'.length l'.length, .slice (some ⟨k', 0, none⟩) p'.length p'.length, .slice (some ⟨q', 0, none⟩) c'.length c'.length]] w fun e w' => e = .returned (.bool R) ∧ Below w.heap.size w w' := by
  obtain ⟨W, hW⟩ : ∃ W, (w.alloc (.cells #[.int .i8 wd, .int .i8 hi, .slice (some ⟨b, 0, none⟩) l.length l.length, .slice (some ⟨k, 0, none⟩) p.length p.length, .slice (some ⟨q, 0, none⟩) c.length c.length] 38)).alloc (.cells #[.int .i8 wd', .int .i8 hi', .slice (some ⟨b', 0, none⟩) l'.length l'.length, .slice (some ⟨k', 0, none⟩) p'.length p'.length, .slice (some ⟨q', 0, none⟩) c'.length c'.length] 38) = W := ⟨_, rfl⟩
  have hk : Below w.heap.size w W := by rw [← hW]; exact kAlloc (kAlloc (Below.refl _ _) _) _
  have gA : McAt W w.heap.size wd hi (.slice (some ⟨b, 0, none⟩) l.length l.length) (.slice (some ⟨k, 0, none⟩) p.length p.length) (.slice (some ⟨q, 0, none⟩) c.length c.length) := by rw [← hW]; exact (McAt.box w _ _ _ _ _ 38).below (kAlloc (Below.refl _ _) _) (by simp)
  have gB : McAt W (w.heap.size + 1) wd' hi' (.slice (some ⟨b', 0, none⟩) l'.length l'.length) (.slice (some ⟨k', 0, none⟩) p'.length p'.length) (.slice (some ⟨q', 0, none⟩) c'.length c'.length) := by
    rw [← hW]
    have h := McAt.box (w.alloc (.cells #[.int .i8 wd, .int .i8 hi, .slice (some ⟨b, 0, none⟩) l.length l.length, .slice (some ⟨k, 0, none⟩) p.length p.length, .slice (some ⟨q, 0, none⟩) c.length c.length] 38)) wd' hi' (.slice (some ⟨b', 0, none⟩) l'.length l'.length) (.slice (some ⟨k', 0, none⟩) p'.length p'.length) (.slice (some ⟨q', 0, none⟩) c'.length c'.length) 38
    simpa only [World.size_alloc] using h
  obtain ⟨Rb, hRb⟩ : ∃ Rb, sameB wd hi l wd' hi' l' = Rb := ⟨_, rfl⟩
  obtain ⟨Rp, hRp⟩ : ∃ Rp, decide (p = p') = Rp := ⟨_, rfl⟩
  obtain ⟨Rc, hRc⟩ : ∃ Rc, decide (c = c') = Rc := ⟨_, rfl⟩
  have HR : Hid (R = (Rb && Rp && Rc)) := Lib.hid (by rw [← hR, ← hRb, ← hRp, ← hRc]; rfl)
  have HB := Lib.hid (implSameBoard_any b b' wd hi wd' hi' l l' W (h.below hk zb) (h'.below hk zb') (Nat.lt_of_lt_of_le zb hk.size) (Nat.lt_of_lt_of_le zb' hk.size) m0 m0' Rb hRb)
  have HP := Lib.hid (fun w2 (h2 : Below w.heap.size w w2) => PortsEqual_any _ _ p p' w2 (SlPo.mk k 0 _ (g.below h2 zk) (Nat.lt_of_lt_of_le zk h2.size) (Nat.le_refl _)) (SlPo.mk k' 0 _ (g'.below h2 zk') (Nat.lt_of_lt_of_le zk' h2.size) (Nat.le_refl _)) m1 m1' Rp hRp)
  have HC := Lib.hid (fun w2 (h2 : Below w.heap.size w w2) => CellsEqual_any _ _ c c' w2 (SlCl.mk q 0 _ (j.below h2 zq) (Nat.lt_of_lt_of_le zq h2.size) (Nat.le_refl _)) (SlCl.mk q' 0 _ (j'.below h2 zq') (Nat.lt_of_lt_of_le zq' h2.size) (Nat.le_refl _)) m2 m2' Rc hRc)
  have GA := Lib.hid gA
  have GB := Lib.hid gB
  have HW := Lib.hid hW
  have la := gA.lt
  have lb := gB.lt
  obtain ⟨x0, x1, x2, x3, x4⟩ := gA
  obtain ⟨y0, y1, y2, y3, y4⟩ := gB
  clear h h' g g' j j' hR hRb hRp hRc hW
  go_enter Try.func12, Try.ntmps12
  go_upto_region 1 with fail
  rw [HW.out]
  go_wp2_with fail
  refine HB.out.mono ?_
  rintro e w1 ⟨rfl, e1⟩
  have T1 := kTrans hk e1
  clear x0 x1 x2 x3 x4 y0 y1 y2 y3 y4
  have GA1 := GA.out.below e1 la
  have GB1 := GB.out.below e1 lb
  have la1 := GA1.lt
  have lb1 := GB1.lt
  cases Rb with
  | false =>
    obtain rfl : R = false := by rw [HR.out]; rfl
    clear HB HP HC GA GB HW
    go_wp2
    go_ret
    exact ⟨rfl, T1⟩
  | true =>
    have GA1' := Lib.hid GA1
    have GB1' := Lib.hid GB1
    obtain ⟨x0, x1, x2, x3, x4⟩ := GA1
    obtain ⟨y0, y1, y2, y3, y4⟩ := GB1
    have H2 := Lib.hid (HP.out w1 T1)
    clear HB HP GA GB HW e1
    go_wp2_with fail
    refine H2.out.mono ?_
    rintro e w2 ⟨rfl, e2⟩
    have T2 := kTrans T1 e2
    clear x0 x1 x2 x3 x4 y0 y1 y2 y3 y4 H2
    cases Rp with
    | false =>
      obtain rfl : R = false := by rw [HR.out]; rfl
      clear HC GA1' GB1'
      go_wp2
      go_ret
      exact ⟨rfl, T2⟩
    | true =>
      obtain rfl : R = Rc := by rw [HR.out]; simp
      have GA2 := GA1'.out.below e2 la1
      have GB2 := GB1'.out.below e2 lb1
      obtain ⟨x0, x1, x2, x3, x4⟩ := GA2
      obtain ⟨y0, y1, y2, y3, y4⟩ := GB2
      have H3 := Lib.hid (HC.out w2 T2)
      clear HC GA1' GB1' e2
      go_wp2_with fail
      refine H3.out.mono ?_
      rintro e w3 ⟨rfl, e3⟩
      have T3 := kTrans T2 e3
      clear x0 x1 x2 x3 x4 y0 y1 y2 y3 y4 H3
      go_wp2
      go_ret
      exact ⟨rfl, T3⟩
set_option maxRecDepth 100000 in
set_option maxHeartbeats 8000000 in
theorem specSameMachine_any (b k q b' k' q' : Nat) (wd hi wd' hi' : Int) (l l' : List Pc) (p p' : List Po) (c c' : List Cl) (w : World) (h : PcsAt w b 0 l) (h' : PcsAt w b' 0 l') (g : PosAt w k 0 p) (g' : PosAt w k' 0 p') (j : ClsAt w q 0 c) (j' : ClsAt w q' 0 c')
    (zb : b < w.heap.size) (zb' : b' < w.heap.size) (zk : k < w.heap.size) (zk' : k' < w.heap.size) (zq : q < w.heap.size) (zq' : q' < w.heap.size) (m0 : l.length ≤ 1048576) (m0' : l'.length ≤ 1048576) (m1 : p.length ≤ 1048576) (m1' : p'.length ≤ 1048576) (m2 : c.length ≤ 1048576) (m2' : c'.length ≤ 1048576) (R : Bool) (hR : sameM wd hi l p c wd' hi' l' p' c' = R) :
    Calls Try.prog 11 #[.agg #[.int .i8 wd, .int .i8 hi, .slice (some ⟨b, 0, none⟩) l.length l.length, .slice (some ⟨k, 0, none⟩) p.length p.length, .slice (some ⟨q, 0, none⟩) c.length c.length], .agg #[.int .i8 wd', .int .i8 hi', .slice (some ⟨b', 0, none⟩) l'.length l'.length, .slice (some ⟨k', 0, none⟩) p'.length p'.length, .slice (some ⟨q', 0, none⟩) c'.length c'.length]] w fun e w' => e = .returned (.bool R) ∧ Below w.heap.size w w' := by
  obtain ⟨W, hW⟩ : ∃ W, (w.alloc (.cells #[.int .i8 wd, .int .i8 hi, .slice (some ⟨b, 0, none⟩) l.length l.length, .slice (some ⟨k, 0, none⟩) p.length p.length, .slice (some ⟨q, 0, none⟩) c.length c.length] 38)).alloc (.cells #[.int .i8 wd', .int .i8 hi', .slice (some ⟨b', 0, none⟩) l'.length l'.length, .slice (some ⟨k', 0, none⟩) p'.length p'.length, .slice (some ⟨q', 0, none⟩) c'.length c'.length] 38) = W := ⟨_, rfl⟩
  have hk : Below w.heap.size w W := by rw [← hW]; exact kAlloc (kAlloc (Below.refl _ _) _) _
  have gA : McAt W w.heap.size wd hi (.slice (some ⟨b, 0, none⟩) l.length l.length) (.slice (some ⟨k, 0, none⟩) p.length p.length) (.slice (some ⟨q, 0, none⟩) c.length c.length) := by rw [← hW]; exact (McAt.box w _ _ _ _ _ 38).below (kAlloc (Below.refl _ _) _) (by simp)
  have gB : McAt W (w.heap.size + 1) wd' hi' (.slice (some ⟨b', 0, none⟩) l'.length l'.length) (.slice (some ⟨k', 0, none⟩) p'.length p'.length) (.slice (some ⟨q', 0, none⟩) c'.length c'.length) := by
    rw [← hW]
    have h := McAt.box (w.alloc (.cells #[.int .i8 wd, .int .i8 hi, .slice (some ⟨b, 0, none⟩) l.length l.length, .slice (some ⟨k, 0, none⟩) p.length p.length, .slice (some ⟨q, 0, none⟩) c.length c.length] 38)) wd' hi' (.slice (some ⟨b', 0, none⟩) l'.length l'.length) (.slice (some ⟨k', 0, none⟩) p'.length p'.length) (.slice (some ⟨q', 0, none⟩) c'.length c'.length) 38
    simpa only [World.size_alloc] using h
  obtain ⟨Rb, hRb⟩ : ∃ Rb, sameB wd hi l wd' hi' l' = Rb := ⟨_, rfl⟩
  have HR : Hid (R = (Rb && decide (p = p') && decide (c = c'))) := Lib.hid (by rw [← hR, ← hRb]; rfl)
  have bdA : BdAt W w.heap.size 0 wd hi (.slice (some ⟨b, 0, none⟩) l.length l.length) := ⟨gA.1, gA.2.1, gA.2.2.1⟩
  have bdB : BdAt W (w.heap.size + 1) 0 wd' hi' (.slice (some ⟨b', 0, none⟩) l'.length l'.length) := ⟨gB.1, gB.2.1, gB.2.2.1⟩
  have HB := Lib.hid (l01Same_any w.heap.size (w.heap.size + 1) b b' l.length l'.length wd hi wd' hi' l l' W rfl rfl bdA bdB (h.below hk zb) (h'.below hk zb') (Nat.lt_of_lt_of_le zb hk.size) (Nat.lt_of_lt_of_le zb' hk.size) m0 m0' Rb hRb)
  have HP := Lib.hid (fun w2 (h2 : Below w.heap.size w w2) => g.below h2 zk)
  have HP' := Lib.hid (fun w2 (h2 : Below w.heap.size w w2) => g'.below h2 zk')
  have HC := Lib.hid (fun w2 (h2 : Below w.heap.size w w2) => j.below h2 zq)
  have HC' := Lib.hid (fun w2 (h2 : Below w.heap.size w w2) => j'.below h2 zq')
  have GA := Lib.hid gA
  have GB := Lib.hid gB
  have HW := Lib.hid hW
  have la := gA.lt
  have lb := gB.lt
  have HGA := Lib.hid (fun w2 (h2 : Below W.heap.size W w2) => gA.below h2 la)
  have HGB := Lib.hid (fun w2 (h2 : Below W.heap.size W w2) => gB.below h2 lb)
  obtain ⟨np, hnp⟩ : ∃ np, p.length = np := ⟨_, rfl⟩
  obtain ⟨np', hnp'⟩ : ∃ np', p'.length = np' := ⟨_, rfl⟩
  obtain ⟨nc, hnc⟩ : ∃ nc, c.length = nc := ⟨_, rfl⟩
  obtain ⟨nc', hnc'⟩ : ∃ nc', c'.length = nc' := ⟨_, rfl⟩
  rw [hnp, hnc] at gA HGA GA hW HW ⊢
  rw [hnp', hnc'] at gB HGB GB hW HW ⊢
  rw [hnp] at m1
  rw [hnp'] at m1'
  rw [hnc] at m2
  rw [hnc'] at m2'
  have Hnp := Lib.hid hnp
  have Hnp' := Lib.hid hnp'
  have Hnc := Lib.hid hnc
  have Hnc' := Lib.hid hnc'
  have hgm1 : Try.prog.eqGuardType Try.prog.depth 79 = false := by kernel_rfl
  have hgm2 : Try.prog.eqGuardType Try.prog.depth 77 = false := by kernel_rfl
  clear h h' g g' j j' hR hRb hW hnp hnp' hnc hnc' bdA bdB
  obtain ⟨x0, x1, x2, x3, x4⟩ := gA
  obtain ⟨y0, y1, y2, y3, y4⟩ := gB
  go_enter Try.func11, Try.ntmps11
  go_upto_region 1 with fail
  rw [HW.out]
  go_wp2_with fail
  refine HB.out.mono ?_
  rintro e w1 ⟨rfl, e1⟩
  have T1 := kTrans hk e1
  clear x0 x1 x2 x3 x4 y0 y1 y2 y3 y4 HB HW GA GB
  cases Rb with
  | false =>
    obtain rfl : R = false := by rw [HR.out]; rfl
    go_wp2
    go_ret
    exact ⟨rfl, T1⟩
  | true =>
    obtain ⟨x0, x1, x2, x3, x4⟩ := HGA.out w1 e1
    obtain ⟨y0, y1, y2, y3, y4⟩ := HGB.out w1 e1
    by_cases h1 : np = np'
    · subst h1
      by_cases h2 : nc = nc'
      · subst h2
        have HR1 : Hid (decide (p.drop 0 = p'.drop 0) = decide (p = p')) := Lib.hid (by simp)
        clear hk
        go_wp2
        clear x0 x1 x2 x3 x4 y0 y1 y2 y3 y4
        go_loopw [5] (fun i wr => ∃ n : Nat, n ≤ np ∧ i = .int .i64 n ∧ Hid (decide (p.drop n = p'.drop n) = decide (p = p')) ∧ Below w1.heap.size w1 wr) (fun i _ => np - (intOf i).toNat)
        case atStart => exact ⟨0, by omega, rfl, HR1, Below.refl _ _⟩
        case round =>
          clear HR1
          obtain ⟨n, hn, rfl, hf, hbr⟩ := hrel
          have T2 := kTrans T1 hbr
          have e2 := kTrans e1 hbr
          obtain ⟨x0, x1, x2, x3, x4⟩ := HGA.out wr e2
          obtain ⟨y0, y1, y2, y3, y4⟩ := HGB.out wr e2
          by_cases hlt : n < np
          · have hl1 : n < p.length := by rw [Hnp.out]; exact hlt
            have hl2 : n < p'.length := by rw [Hnp'.out]; exact hlt
            have hp1 := (HP.out wr T2) n hl1
            have hp2 := (HP'.out wr T2) n hl2
            have hd1 : p.drop n = p[n] :: p.drop (n + 1) := List.drop_eq_getElem_cons hl1
            have hd2 : p'.drop n = p'[n] :: p'.drop (n + 1) := List.drop_eq_getElem_cons hl2
            generalize p[n] = a at hp1 hd1
            generalize p'[n] = a' at hp2 hd2
            have hq := hf.out
            rw [hd1, hd2] at hq
            have he := Po_eq a a'
            obtain ⟨a0, a1, a2⟩ := hp1
            obtain ⟨d0, d1, d2⟩ := hp2
            simp only [Nat.zero_add] at a0 a1 a2 d0 d1 d2
            by_cases hpq : a = a'
            · have hR2 : Hid (decide (p.drop (n + 1) = p'.drop (n + 1)) = decide (p = p')) := Lib.hid (by rw [← hq]; simp [hpq])
              rw [show decide (a = a') = true by simpa using hpq] at he
              clear hf hd1 hd2 hq hpq
              go_wp2
              go_quiet (fail)
              go_wp2
              exact ⟨⟨n + 1, by omega, by go_num, hR2, kDrewN hbr _⟩, by simp [intOf]; omega⟩
            · have hRp : decide (p = p') = false := by rw [← hq]; simp [hpq]
              obtain rfl : R = false := by rw [HR.out, hRp]; rfl
              rw [show decide (a = a') = false by simpa using hpq] at he
              clear hf hd1 hd2 hq hpq hRp
              go_wp2
              go_quiet (fail)
              go_wp2
              go_ret
              exact ⟨rfl, kDrewN T2 _⟩
          · have hRp : decide (p = p') = true := by rw [← hf.out, List.drop_of_length_le (by rw [Hnp.out]; omega), List.drop_of_length_le (by rw [Hnp'.out]; omega)]; simp
            have HR3 : Hid (R = decide (c = c')) := Lib.hid (by rw [HR.out, hRp]; simp)
            have HR4 : Hid (decide (c.drop 0 = c'.drop 0) = R) := Lib.hid (by rw [HR3.out]; simp)
            clear hf hRp HR HR3
            go_wp2
            clear x0 x1 x2 x3 x4 y0 y1 y2 y3 y4
            obtain ⟨w2, rfl⟩ : ∃ w2 : World, w2 = wr := ⟨_, rfl⟩
            go_loopw [6] (fun i wr => ∃ n : Nat, n ≤ nc ∧ i = .int .i64 n ∧ Hid (decide (c.drop n = c'.drop n) = R) ∧ Below w2.heap.size w2 wr) (fun i _ => nc - (intOf i).toNat)
            case atStart => exact ⟨0, by omega, rfl, HR4, Below.refl _ _⟩
            case round =>
              clear HR4
              obtain ⟨n, hn, rfl, hf, hbr⟩ := hrel
              have T3 := kTrans T2 hbr
              have e3 := kTrans e2 hbr
              obtain ⟨x0, x1, x2, x3, x4⟩ := HGA.out wr e3
              obtain ⟨y0, y1, y2, y3, y4⟩ := HGB.out wr e3
              by_cases hlt : n < nc
              · have hl1 : n < c.length := by rw [Hnc.out]; exact hlt
                have hl2 : n < c'.length := by rw [Hnc'.out]; exact hlt
                have hp1 := (HC.out wr T3) n hl1
                have hp2 := (HC'.out wr T3) n hl2
                have hd1 : c.drop n = c[n] :: c.drop (n + 1) := List.drop_eq_getElem_cons hl1
                have hd2 : c'.drop n = c'[n] :: c'.drop (n + 1) := List.drop_eq_getElem_cons hl2
                generalize c[n] = a at hp1 hd1
                generalize c'[n] = a' at hp2 hd2
                have hq := hf.out
                rw [hd1, hd2] at hq
                have he := Cl_eq a a'
                obtain ⟨a0, a1⟩ := hp1
                obtain ⟨d0, d1⟩ := hp2
                simp only [Nat.zero_add] at a0 a1 d0 d1
                by_cases hpq : a = a'
                · have hR2 : Hid (decide (c.drop (n + 1) = c'.drop (n + 1)) = R) := Lib.hid (by rw [← hq]; simp [hpq])
                  rw [show decide (a = a') = true by simpa using hpq] at he
                  clear hf hd1 hd2 hq hpq
                  go_wp2
                  go_quiet (fail)
                  go_wp2
                  exact ⟨⟨n + 1, by omega, by go_num, hR2, kDrewN hbr _⟩, by simp [intOf]; omega⟩
                · obtain rfl : R = false := by rw [← hq]; simp [hpq]
                  rw [show decide (a = a') = false by simpa using hpq] at he
                  clear hf hd1 hd2 hq hpq
                  go_wp2
                  go_quiet (fail)
                  go_wp2
                  go_ret
                  exact ⟨rfl, kDrewN T3 _⟩
              · obtain rfl : R = true := by rw [← hf.out, List.drop_of_length_le (by rw [Hnc.out]; omega), List.drop_of_length_le (by rw [Hnc'.out]; omega)]; simp
                clear hf
                go_wp2
                go_ret
                exact ⟨rfl, T3⟩
      · have hne : c ≠ c' := fun h => h2 (by rw [← Hnc.out, ← Hnc'.out, h])
        obtain rfl : R = false := by rw [HR.out, show decide (c = c') = false by simpa using hne]; simp
        have n1 : ((nc : Int) != (nc' : Int)) = true := by simpa using (fun e => h2 (by omega))
        have n2 : ((nc : Int) == (nc' : Int)) = false := by simpa using (fun e => h2 (by omega))
        clear HR
        go_wp2
        go_ret
        exact ⟨rfl, T1⟩
    · have hne : p ≠ p' := fun h => h1 (by rw [← Hnp.out, ← Hnp'.out, h])
      obtain rfl : R = false := by rw [HR.out, show decide (p = p') = false by simpa using hne]; simp
      have n1 : ((np : Int) != (np' : Int)) = true := by simpa using (fun e => h1 (by omega))
      have n2 : ((np : Int) == (np' : Int)) = false := by simpa using (fun e => h1 (by omega))
      clear HR
      go_wp2
      go_ret
      exact ⟨rfl, T1⟩
end Go.Proofs.Ytmabcfepkcpcoaa
