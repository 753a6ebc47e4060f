/- ValidMachine, the model. -/
import Derived.Test.YtmllfacgonchnaaDoorDv
import Derived.Test.YtmllfacgonchnaaDoorG2
namespace Go.Proofs.YtmllfacgonchnaaDoor
open Go.ChangeShapes Go.WideShapes Go.ChangeAt Go.RowKit Go.Joins Go.Deep
set_option linter.unusedVariables false
set_option linter.unusedSimpArgs false

set_option maxRecDepth 100000 in
set_option maxHeartbeats 16000000 in
theorem l03Ok_any (bb b k q n0 n1 n2 : Nat) (wd hi : Int) (l : List Pc) (p : List Po) (c : List Cl) (w : World) (hn0 : l.length = n0) (hn1 : p.length = n1) (hn2 : c.length = n2)
    (hm : McAt w bb wd hi (.slice (some ⟨b, 0, none⟩) n0 n0) (.slice (some ⟨k, 0, none⟩) n1 n1) (.slice (some ⟨q, 0, none⟩) n2 n2)) (hp : PcsAt w b 0 l) (hg : PosAt w k 0 p) (hj : ClsAt w q 0 c) (zb : b < w.heap.size) (zk : k < w.heap.size) (zq : q < w.heap.size)
    (h8 : All8 l) (hw : PosWf p) (bw : i8 wd) (bh : i8 hi) (m0 : n0 ≤ 1048576) (m1 : n1 ≤ 1048576) (m2 : n2 ≤ 1048576) (R : Bool) (hR : R = machOk wd hi l p c) :
    Calls Tryd.prog 71 #[.pointer (some ⟨bb, 0, none⟩)] w fun e w' => e = .returned (.bool R) ∧ Below w.heap.size w w' := by
  obtain ⟨Rb, hRb⟩ : ∃ Rb, Rb = boardOk wd hi l := ⟨_, rfl⟩
  have bd : BdAt w bb 0 wd hi (.slice (some ⟨b, 0, none⟩) n0 n0) := ⟨hm.1, hm.2.1, hm.2.2.1⟩
  have lbb := hm.lt
  have HB := Lib.hid (l01Ok_any bb 0 b 0 n0 n0 wd hi l w hn0 bd hp zb (Nat.le_refl _) h8 bw bh m0 Rb hRb)
  have HM := Lib.hid (fun W (hW : Below w.heap.size w W) => hm.below hW lbb)
  have HD := Lib.hid (fun W (hW : Below w.heap.size w W) => bd.below hW lbb)
  have HP := Lib.hid (fun W (hW : Below w.heap.size w W) => hp.below hW zb)
  have HG := Lib.hid (fun W (hW : Below w.heap.size w W) => hg.below hW zk)
  have HJ := Lib.hid (fun W (hW : Below w.heap.size w W) => hj.below hW zq)
  have Hn0 := Lib.hid hn0
  have Hn1 := Lib.hid hn1
  have Hn2 := Lib.hid hn2
  have HW := Lib.hid hw
  obtain ⟨C, hC⟩ : ∃ C, C = countsOk n0 n1 n2 := ⟨_, rfl⟩
  obtain ⟨I, hI⟩ : ∃ I, insOk l [] p = I := ⟨_, rfl⟩
  obtain ⟨O, hO⟩ : ∃ O, outsOk l c = O := ⟨_, rfl⟩
  have HC := Lib.hid hC
  have HI : Hid (insOk l (p.take 0) (p.drop 0) = I) := Lib.hid hI
  have HO : Hid (outsOk l (c.drop 0) = O) := Lib.hid hO
  have HF : Hid (R = (Rb && C && I && O)) := Lib.hid (by rw [hR]; unfold machOk; rw [← hRb, hn0, hn1, hn2, ← hC, hI, hO])
  have hgm1 : Tryd.prog.eqGuardType Tryd.prog.depth 140 = false := by kernel_rfl
  clear hm bd hp hg hj h8 hw hn0 hn1 hn2 hC hI hO hR hRb bw bh
  go_enter Tryd.func71, Tryd.ntmps71
  go_wp2_with fail
  refine HB.out.mono ?_
  rintro e w1 ⟨rfl, hb1⟩
  clear HB
  cases Rb with
  | false =>
    obtain rfl : R = false := by rw [HF.out]; simp
    go_wp2
    go_ret
    exact ⟨rfl, hb1⟩
  | true =>
    obtain ⟨x0, x1, x2, x3, x4⟩ := HM.out w1 hb1
    by_cases g0 : n0 ≤ 60
    · have e0 : decide ((60 : Int) < (n0 : Int)) = false := by simp; omega
      have e0' : decide (60 < n0) = false := by simp; omega
      have e0'' : ¬ 60 < n0 := by omega
      obtain ⟨R1, hR1⟩ : ∃ R1, R1 = decide (1 ≤ (n1 : Int) ∧ (n1 : Int) ≤ 6) := ⟨_, rfl⟩
      have HR1 := Lib.hid hR1
      clear hR1
      go_wp2_with fail
      refine (l00In_any _ _ _ _ R1 HR1.out).mono ?_
      rintro e w2 ⟨rfl, rfl⟩
      cases R1 with
      | false =>
        obtain rfl : C = false := by
          rw [HC.out]; unfold countsOk
          have : ¬ (1 ≤ n1 ∧ n1 ≤ 6) := by have := of_decide_eq_false HR1.out.symm; omega
          simp [this]
        obtain rfl : R = false := by rw [HF.out]; simp
        go_wp2
        go_ret
        exact ⟨rfl, hb1⟩
      | true =>
        obtain ⟨R2, hR2⟩ : ∃ R2, R2 = decide (1 ≤ (n2 : Int) ∧ (n2 : Int) ≤ 8) := ⟨_, rfl⟩
        have HR2 := Lib.hid hR2
        clear hR2
        go_wp2_with fail
        refine (l00In_any _ _ _ _ R2 HR2.out).mono ?_
        rintro e w2 ⟨rfl, rfl⟩
        obtain rfl : C = R2 := by
          rw [HC.out, HR2.out]; unfold countsOk
          have : 1 ≤ n1 ∧ n1 ≤ 6 := by have := of_decide_eq_true HR1.out.symm; omega
          have e : (1 ≤ (n2 : Int) ∧ (n2 : Int) ≤ 8) = (1 ≤ n2 ∧ n2 ≤ 8) := by apply propext; omega
          simp only [g0, this, e]; simp
        cases C with
        | false =>
          obtain rfl : R = false := by rw [HF.out]; simp
          go_wp2
          go_ret
          exact ⟨rfl, hb1⟩
        | true =>
          clear e0 e0' e0'' g0 HR1 HR2 HC
          go_wp2
          clear x0 x1 x2 x3 x4
          go_loopw [3, 4] (fun i _ wr => ∃ n : Nat, n ≤ n1 ∧ i = .int .i64 n ∧ Hid (insOk l (p.take n) (p.drop n) = I) ∧ Below w.heap.size w wr) (fun i _ _ => n1 - (intOf i).toNat)
          case atStart => exact ⟨0, by omega, rfl, HI, hb1⟩
          case round =>
            clear HI hb1
            obtain ⟨n, hn, rfl, hf, hbr⟩ := hrel
            obtain ⟨x0, x1, x2, x3, x4⟩ := HM.out wr hbr
            have kb := Nat.lt_of_lt_of_le lbb hbr.size
            have kk := Nat.lt_of_lt_of_le zk hbr.size
            by_cases hlt : n < n1
            · have hlk : n < p.length := by rw [Hn1.out]; exact hlt
              have hpa := (HG.out wr hbr) n hlk
              have hwf := HW.out _ (List.getElem_mem hlk)
              have hd : p.drop n = p[n] :: p.drop (n + 1) := List.drop_eq_getElem_cons hlk
              have htk := take_mem_drop hlk
              have Hel : ∀ W, Below w.heap.size w W → PoAt W k (0 + n * 3) p[n] := fun W hW => (HG.out W hW) n hlk
              generalize p[n] = a at hpa hd hwf htk Hel
              have HEL := Lib.hid Hel
              have Htk := Lib.hid htk
              have hq := hf.out
              rw [hd] at hq
              have HQ := Lib.hid hq
              have hsd := i8_of hwf.2.2
              unfold i8 at hsd
              have hws : IntKind.i64.wrap a.side = a.side := IntWalk.i64_in _ (by omega)
              obtain ⟨a0, a1, a2⟩ := hpa
              simp only [Nat.zero_add] at a0 a1 a2
              obtain ⟨f, hff⟩ : ∃ f, findFrom a.x a.y l 0 = f := ⟨_, rfl⟩
              have Hff := Lib.hid hff
              clear hf hd hwf htk Hel hq hff
              by_cases g1 : 0 ≤ a.side ∧ a.side ≤ 3
              · by_cases g3 : 0 ≤ f
                · have f1 : decide (f < 0) = false := by simp; omega
                  have f2 : ¬ f < 0 := by omega
                  go_wp2
                  refine wp_region_class (fun w' => Below wr.heap.size wr w') (by kernel_rfl) (by kernel_rfl) (Below.drew (Below.refl _ _)) ?_
                  repeat (first
                    | go_big_quiet_skip
                    | (go_big_quiet_want; go_big_quiet_op; go_big_quiet_on)
                    | (refine wpQuiet_step (fun K hK => ?_)
                       go_simp
                       refine hK _ ?_
                       clear hK K)
                    | (refine wpQuiet_step (fun K hK => ?_)
                       go_simp
                       apply Exists.intro
                       refine ⟨fun w1 hw1 => ?_, hK _ ?_⟩
                       · first
                         | exact rfl
                         | (go_at_call 92
                            exact (l01Side_any _ _ true (by simp; omega)).mono fun e w2 h => ⟨h.1, h.2 ▸ hw1⟩)
                         | (go_at_call 81
                            exact (l01Find_to bb 0 b 0 n0 n0 wd hi a.x a.y f l _ Hn0.out (HD.out _ (kTrans hbr hw1)) (HP.out _ (kTrans hbr hw1)) (Nat.lt_of_lt_of_le zb (kTrans hbr hw1).size) (Nat.le_refl _) m0 Hff.out).mono fun e w2 h => ⟨h.1, kTrans hw1 h.2⟩)
                         | (have e0_ := (hw1.cell (p := ⟨bb, 3, none⟩) kb).trans x3
                            have e1_ := (hw1.cell (p := ⟨k, n * 3, none⟩) kk).trans a0
                            have e2_ := (hw1.cell (p := ⟨k, n * 3 + 1, none⟩) kk).trans a1
                            have e3_ := (hw1.cell (p := ⟨k, n * 3 + 2, none⟩) kk).trans a2
                            go_simp
                            exact rfl)
                       clear hK K))
                  refine wpQuiet_nil ?_
                  intro w2 hw2
                  have T2 := kTrans hbr hw2
                  clear x0 x1 x2 x3 x4 a0 a1 a2 hbr hw2 hws
                  go_wp2
                  go_loopw [4] (fun i wq => ∃ j : Nat, j ≤ n ∧ i = .int .i64 j ∧ Hid (a ∉ p.take j) ∧ Below w.heap.size w wq) (fun i _ => n - (intOf i).toNat)
                  case atStart => exact ⟨0, by omega, rfl, Lib.hid (by simp), T2⟩
                  case round =>
                    clear T2
                    obtain ⟨j, hjn, rfl, hno, hbq⟩ := hrel
                    by_cases hlt2 : j < n
                    · have hlj : j < p.length := by rw [Hn1.out]; omega
                      obtain ⟨x0, x1, x2, x3, x4⟩ := HM.out _ hbq
                      have hpj := (HG.out _ hbq) j hlj
                      have htj := take_mem_drop hlj
                      have hmem : p[j] ∈ p.take n := by rw [List.mem_take_iff_getElem]; exact ⟨j, by omega, rfl⟩
                      generalize p[j] = d at hpj htj hmem
                      obtain ⟨a0, a1, a2⟩ := HEL.out _ hbq
                      obtain ⟨d0, d1, d2⟩ := hpj
                      simp only [Nat.zero_add] at a0 a1 a2 d0 d1 d2
                      have he := Po_eq d a
                      have hj1 : j < n1 := by omega
                      by_cases hpq : d = a
                      · obtain rfl : I = false := by rw [← HQ.out]; simp [insOk, ← hpq, hmem]
                        obtain rfl : R = false := by rw [HF.out]; simp
                        rw [show decide (d = a) = true by simpa using hpq] at he
                        clear hno hmem htj hpq
                        go_wp2
                        go_quiet (fail)
                        go_wp2
                        go_ret
                        exact ⟨rfl, kDrewN hbq _⟩
                      · have hno2 : Hid (a ∉ p.take (j + 1)) := Lib.hid (by rw [htj]; simp [hno.out]; exact fun h => hpq h.symm)
                        rw [show decide (d = a) = false by simpa using hpq] at he
                        clear hno hmem htj hpq
                        go_wp2
                        go_quiet (fail)
                        go_wp2
                        exact ⟨⟨j + 1, by omega, by go_num, hno2, kDrewN hbq _⟩, by simp [intOf]; omega⟩
                    · obtain rfl : n = j := by omega
                      have hI2 : Hid (insOk l (p.take (n + 1)) (p.drop (n + 1)) = I) := Lib.hid (by rw [← HQ.out, Htk.out]; simp [insOk, Po.told, Hff.out, g1, g3, hno.out])
                      clear hno HQ
                      go_wp2
                      exact ⟨⟨n + 1, by omega, by go_num, hI2, hbq⟩, by simp [intOf]; omega⟩
                · obtain rfl : I = false := by rw [← HQ.out]; simp [insOk, Po.told, Hff.out]; intro _ _ h; omega
                  obtain rfl : R = false := by rw [HF.out]; simp
                  have f1 : decide (f < 0) = true := by simp; omega
                  have f2 : f < 0 := by omega
                  go_wp2
                  refine wp_region_class (fun w' => Below wr.heap.size wr w') (by kernel_rfl) (by kernel_rfl) (Below.drew (Below.refl _ _)) ?_
                  repeat (first
                    | go_big_quiet_skip
                    | (go_big_quiet_want; go_big_quiet_op; go_big_quiet_on)
                    | (refine wpQuiet_step (fun K hK => ?_)
                       go_simp
                       refine hK _ ?_
                       clear hK K)
                    | (refine wpQuiet_step (fun K hK => ?_)
                       go_simp
                       apply Exists.intro
                       refine ⟨fun w1 hw1 => ?_, hK _ ?_⟩
                       · first
                         | exact rfl
                         | (go_at_call 92
                            exact (l01Side_any _ _ true (by simp; omega)).mono fun e w2 h => ⟨h.1, h.2 ▸ hw1⟩)
                         | (go_at_call 81
                            exact (l01Find_to bb 0 b 0 n0 n0 wd hi a.x a.y f l _ Hn0.out (HD.out _ (kTrans hbr hw1)) (HP.out _ (kTrans hbr hw1)) (Nat.lt_of_lt_of_le zb (kTrans hbr hw1).size) (Nat.le_refl _) m0 Hff.out).mono fun e w2 h => ⟨h.1, kTrans hw1 h.2⟩)
                         | (have e0_ := (hw1.cell (p := ⟨bb, 3, none⟩) kb).trans x3
                            have e1_ := (hw1.cell (p := ⟨k, n * 3, none⟩) kk).trans a0
                            have e2_ := (hw1.cell (p := ⟨k, n * 3 + 1, none⟩) kk).trans a1
                            have e3_ := (hw1.cell (p := ⟨k, n * 3 + 2, none⟩) kk).trans a2
                            go_simp
                            exact rfl)
                       clear hK K))
                  refine wpQuiet_nil ?_
                  intro w2 hw2
                  have T2 := kTrans hbr hw2
                  clear x0 x1 x2 x3 x4 a0 a1 a2 hbr hw2 hws
                  go_wp2
                  go_ret
                  exact ⟨rfl, T2⟩
              · obtain rfl : I = false := by rw [← HQ.out]; simp [insOk, Po.told]; intro h3 h4; exact absurd ⟨h3, h4⟩ g1
                obtain rfl : R = false := by rw [HF.out]; simp
                go_wp2
                refine wp_region_class (fun w' => Below wr.heap.size wr w') (by kernel_rfl) (by kernel_rfl) (Below.drew (Below.refl _ _)) ?_
                repeat (first
                  | go_big_quiet_skip
                  | (go_big_quiet_want; go_big_quiet_op; go_big_quiet_on)
                  | (refine wpQuiet_step (fun K hK => ?_)
                     go_simp
                     refine hK _ ?_
                     clear hK K)
                  | (refine wpQuiet_step (fun K hK => ?_)
                     go_simp
                     apply Exists.intro
                     refine ⟨fun w1 hw1 => ?_, hK _ ?_⟩
                     · first
                       | exact rfl
                       | (go_at_call 92
                          exact (l01Side_any _ _ false (by simpa using g1)).mono fun e w2 h => ⟨h.1, h.2 ▸ hw1⟩)
                       | (have e0_ := (hw1.cell (p := ⟨bb, 3, none⟩) kb).trans x3
                          have e1_ := (hw1.cell (p := ⟨k, n * 3, none⟩) kk).trans a0
                          have e2_ := (hw1.cell (p := ⟨k, n * 3 + 1, none⟩) kk).trans a1
                          have e3_ := (hw1.cell (p := ⟨k, n * 3 + 2, none⟩) kk).trans a2
                          go_simp
                          exact rfl)
                     clear hK K))
                refine wpQuiet_nil ?_
                intro w2 hw2
                have T2 := kTrans hbr hw2
                clear x0 x1 x2 x3 x4 a0 a1 a2 hbr hw2 hws
                go_wp2
                go_ret
                exact ⟨rfl, T2⟩
            · obtain rfl : I = true := by rw [← hf.out, List.drop_of_length_le (by rw [Hn1.out]; omega)]; simp [insOk]
              obtain rfl : R = O := by rw [HF.out]; simp
              clear hf HF
              go_wp2
              clear x0 x1 x2 x3 x4 kb kk hlt
              obtain ⟨w2, rfl⟩ : ∃ w2 : World, w2 = wr := ⟨_, rfl⟩
              go_loopw [5] (fun i wr => ∃ n : Nat, n ≤ n2 ∧ i = .int .i64 n ∧ Hid (outsOk l (c.drop n) = R) ∧ Below w.heap.size w wr) (fun i _ => n2 - (intOf i).toNat)
              case atStart => exact ⟨0, by omega, rfl, HO, hbr⟩
              case round =>
                clear HO hbr hn
                obtain ⟨n, hn, rfl, hf, hbr⟩ := hrel
                obtain ⟨x0, x1, x2, x3, x4⟩ := HM.out wr hbr
                have kb := Nat.lt_of_lt_of_le lbb hbr.size
                have kk := Nat.lt_of_lt_of_le zq hbr.size
                by_cases hlt : n < n2
                · have hlk : n < c.length := by rw [Hn2.out]; exact hlt
                  have hpa := (HJ.out wr hbr) n hlk
                  have hd : c.drop n = c[n] :: c.drop (n + 1) := List.drop_eq_getElem_cons hlk
                  generalize c[n] = a at hpa hd
                  have hq := hf.out
                  rw [hd] at hq
                  obtain ⟨a0, a1⟩ := hpa
                  simp only [Nat.zero_add] at a0 a1
                  obtain ⟨f, hff⟩ : ∃ f, findFrom a.x a.y l 0 = f := ⟨_, rfl⟩
                  have Hff := Lib.hid hff
                  clear hf hd hff
                  by_cases g3 : 0 ≤ f
                  · have f1 : decide (f < 0) = false := by simp; omega
                    have f2 : ¬ f < 0 := by omega
                    have hR2 : Hid (outsOk l (c.drop (n + 1)) = R) := Lib.hid (by rw [← hq]; simp [outsOk, Hff.out, g3])
                    clear hq
                    go_wp2
                    refine wp_region_class (fun w' => Below wr.heap.size wr w') (by kernel_rfl) (by kernel_rfl) (Below.drew (Below.refl _ _)) ?_
                    repeat (first
                      | go_big_quiet_skip
                      | (go_big_quiet_want; go_big_quiet_op; go_big_quiet_on)
                      | (refine wpQuiet_step (fun K hK => ?_)
                         go_simp
                         refine hK _ ?_
                         clear hK K)
                      | (refine wpQuiet_step (fun K hK => ?_)
                         go_simp
                         apply Exists.intro
                         refine ⟨fun w1 hw1 => ?_, hK _ ?_⟩
                         · first
                           | exact rfl
                           | (go_at_call 81
                              exact (l01Find_to bb 0 b 0 n0 n0 wd hi a.x a.y f l _ Hn0.out (HD.out _ (kTrans hbr hw1)) (HP.out _ (kTrans hbr hw1)) (Nat.lt_of_lt_of_le zb (kTrans hbr hw1).size) (Nat.le_refl _) m0 Hff.out).mono fun e w2 h => ⟨h.1, kTrans hw1 h.2⟩)
                           | (have e0_ := (hw1.cell (p := ⟨bb, 4, none⟩) kb).trans x4
                              have e1_ := (hw1.cell (p := ⟨q, n * 2, none⟩) kk).trans a0
                              have e2_ := (hw1.cell (p := ⟨q, n * 2 + 1, none⟩) kk).trans a1
                              go_simp
                              exact rfl)
                         clear hK K))
                    refine wpQuiet_nil ?_
                    intro w2 hw2
                    have T2 := kTrans hbr hw2
                    clear x0 x1 x2 x3 x4 a0 a1 hbr hw2
                    go_wp2
                    exact ⟨⟨n + 1, by omega, by go_num, hR2, T2⟩, by simp [intOf]; omega⟩
                  · obtain rfl : R = false := by rw [← hq]; simp [outsOk, Hff.out]; intro h; omega
                    have f1 : decide (f < 0) = true := by simp; omega
                    have f2 : f < 0 := by omega
                    clear hq
                    go_wp2
                    refine wp_region_class (fun w' => Below wr.heap.size wr w') (by kernel_rfl) (by kernel_rfl) (Below.drew (Below.refl _ _)) ?_
                    repeat (first
                      | go_big_quiet_skip
                      | (go_big_quiet_want; go_big_quiet_op; go_big_quiet_on)
                      | (refine wpQuiet_step (fun K hK => ?_)
                         go_simp
                         refine hK _ ?_
                         clear hK K)
                      | (refine wpQuiet_step (fun K hK => ?_)
                         go_simp
                         apply Exists.intro
                         refine ⟨fun w1 hw1 => ?_, hK _ ?_⟩
                         · first
                           | exact rfl
                           | (go_at_call 81
                              exact (l01Find_to bb 0 b 0 n0 n0 wd hi a.x a.y f l _ Hn0.out (HD.out _ (kTrans hbr hw1)) (HP.out _ (kTrans hbr hw1)) (Nat.lt_of_lt_of_le zb (kTrans hbr hw1).size) (Nat.le_refl _) m0 Hff.out).mono fun e w2 h => ⟨h.1, kTrans hw1 h.2⟩)
                           | (have e0_ := (hw1.cell (p := ⟨bb, 4, none⟩) kb).trans x4
                              have e1_ := (hw1.cell (p := ⟨q, n * 2, none⟩) kk).trans a0
                              have e2_ := (hw1.cell (p := ⟨q, n * 2 + 1, none⟩) kk).trans a1
                              go_simp
                              exact rfl)
                         clear hK K))
                    refine wpQuiet_nil ?_
                    intro w2 hw2
                    have T2 := kTrans hbr hw2
                    clear x0 x1 x2 x3 x4 a0 a1 hbr hw2
                    go_wp2
                    go_ret
                    exact ⟨rfl, T2⟩
                · obtain rfl : R = true := by rw [← hf.out, List.drop_of_length_le (by rw [Hn2.out]; omega)]; rfl
                  clear hf
                  go_wp2
                  go_ret
                  exact ⟨rfl, hbr⟩
    · obtain rfl : C = false := by rw [HC.out]; unfold countsOk; simp [g0]
      obtain rfl : R = false := by rw [HF.out]; simp
      have e0 : decide ((60 : Int) < (n0 : Int)) = true := by simp; omega
      have e0' : decide (60 < n0) = true := by simp; omega
      have e0'' : 60 < n0 := by omega
      go_wp2
      go_ret
      exact ⟨rfl, hb1⟩
end Go.Proofs.YtmllfacgonchnaaDoor
