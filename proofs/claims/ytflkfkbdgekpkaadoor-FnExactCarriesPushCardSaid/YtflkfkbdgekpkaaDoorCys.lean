/- CarriesPush: the model. -/
import Derived.Test.YtflkfkbdgekpkaaDoorCy
namespace Go.Proofs.YtflkfkbdgekpkaaDoor
open Go.ChangeShapes Go.WideShapes Go.ChangeAt Go.RowKit Go.Joins Go.Deep
set_option linter.unusedVariables false
set_option linter.unusedSimpArgs false

theorem hitAtL_rxC {lb : List Pc} {x y : Int} {f : Fl} {h : Nat × Fl} (m : h ∈ hitAtL lb x y f) : rxF (lb.getD h.1 pc0).kind (lb.getD h.1 pc0).turn h.2.frm = true := by
  unfold hitAtL at m
  split at m
  · rename_i hc
    obtain rfl := List.mem_singleton.1 m
    exact hc.2
  · simp at m
theorem insL_rxC {lb : List Pc} {h : Nat × Fl} : ∀ {l : List Pu}, h ∈ insL lb l → rxF (lb.getD h.1 pc0).kind (lb.getD h.1 pc0).turn h.2.frm = true
  | [], m => by simp [insL] at m
  | p :: l, m => by
    rcases List.mem_append.1 (show h ∈ hitAtL lb p.x p.y ⟨p.tick, p.side, -1⟩ ++ insL lb l from m) with g | g
    · exact hitAtL_rxC g
    · exact insL_rxC g
theorem outU_rxC {lb : List Pc} {p : Pc} {i : Int} {f : Fl} {h : Nat × Fl} : ∀ {k : Nat}, h ∈ outU lb p i f k → rxF (lb.getD h.1 pc0).kind (lb.getD h.1 pc0).turn h.2.frm = true
  | 0, m => by simp [outU] at m
  | k + 1, m => by
    rcases List.mem_append.1 (show h ∈ outU lb p i f k ++ outS lb p i f k from m) with g | g
    · exact outU_rxC g
    · unfold outS at g
      split at g
      · exact hitAtL_rxC g
      · simp at g
theorem sol_rxC {lb : List Pc} {l : List Pu} {F : Nat → Fl} (h : Sol (gameL lb l) F) {k : Nat} (hk : k < lb.length) (h0 : 0 ≤ (F k).tick) : rxF (lb.getD k pc0).kind (lb.getD k pc0).turn (F k).frm = true := by
  rcases ((h k hk).2 h0).1 with m | ⟨i, hi, hi0, m⟩
  · exact insL_rxC (h := (k, F k)) m
  · exact outU_rxC (h := (k, F k)) m
theorem tmod_bit {r : Int} (h : 0 ≤ r) : Int.tmod r 2 = r % 2 := Int.tmod_eq_emod_of_nonneg h
set_option maxRecDepth 100000 in
set_option maxHeartbeats 2000000 in
theorem l02FromC_any (bb bo b m cap : Nat) (wd hi : Int) (k : Nat) (s : Int) (lb : List Pc) (q : Pu) (w : World) (hm : lb.length = m) (hbd : BdAt w bb bo wd hi (.slice (some ⟨b, 0, none⟩) m cap)) (hq : PcsAt w b 0 lb) (hbb : b < w.heap.size) (hcap : m ≤ cap) (h8 : All8 lb) (hmm : m ≤ 1048576)
    (hR : true = (boardOk wd hi lb && pushesOk lb [q])) (hkl : k < lb.length) (hs : 0 ≤ s ∧ s ≤ 3) (hqe : q = ⟨lb[k].x, lb[k].y, s, 0⟩) (lr : List Fl) (hlr : RunsTo true lb [q] lr) :
    Calls Tryd.prog 33 #[.pointer (some ⟨bb, bo, none⟩), .int .i64 (k : Int), .int .i64 s] w fun e w' => ∃ v, e = .returned v ∧ SlWFl w.heap.size w'.heap.size w' lr v ∧ Below w.heap.size w w' := by
  have hkm : k < m := by omega
  obtain ⟨a0, a1, a2, a3, a4⟩ := hq k hkl
  have h8p := h8 _ (List.getElem_mem hkl)
  have bA : Below w.heap.size w (w.alloc (.cells #[.int .i8 lb[k].x, .int .i8 lb[k].y, .int .i8 s, .int .i16 0] 88)) := kAlloc (Below.refl _ _) _
  have hnew := heap_alloc_new w (.cells #[.int .i8 lb[k].x, .int .i8 lb[k].y, .int .i8 s, .int .i16 0] 88)
  have hpu : PusAt (w.alloc (.cells #[.int .i8 lb[k].x, .int .i8 lb[k].y, .int .i8 s, .int .i16 0] 88)) w.heap.size 0 [q] := by
    intro j hj
    obtain rfl : j = 0 := by simpa using hj
    simp only [List.getElem_cons_zero, hqe]
    exact ⟨cell_of_row _ _ 0 _ _ _ hnew, cell_of_row _ _ 1 _ _ _ hnew, cell_of_row _ _ 2 _ _ _ hnew, cell_of_row _ _ 3 _ _ _ hnew⟩
  have HX := Lib.hid (l02Run_to bb bo b 0 m cap w.heap.size 1 wd hi lb [q] _ hm (hbd.below bA hbd.lt) (hq.below bA hbb) (Nat.lt_of_lt_of_le hbb bA.size) hcap rfl hpu (blk_lt hnew) hR lr hlr)
  obtain ⟨q0, q1, q2⟩ := hbd
  have wss : IntKind.i8.wrap s = s := IntWalk.i8_in _ (by omega)
  have hki : (k : Int) < (m : Int) := by omega
  clear hqe hpu hnew
  generalize lb[k] = p at a0 a1 a2 a3 a4 HX bA h8p
  simp only [Nat.zero_add] at a0 a1 a2 a3 a4
  clear hm hq hR h8 hlr hkl h8p
  go_enter Tryd.func33, Tryd.ntmps33
  go_wp2_with fail
  refine HX.out.mono ?_
  rintro e w1 ⟨v, rfl, hv, hb1⟩
  have T := kTrans bA hb1
  obtain ⟨va, vc, rfl⟩ := hv.form
  have Hv := Lib.hid (hv.mono bA.size (Nat.le_refl _))
  clear hv HX hb1
  go_wp2
  go_ret
  exact ⟨_, rfl, Hv.out, T⟩
set_option maxRecDepth 100000 in
set_option maxHeartbeats 8000000 in
theorem specCarriesPush_any (b m cap : Nat) (wd hi : Int) (lb : List Pc) (p : Wy) (w : World) (hm : lb.length = m) (hq : PcsAt w b 0 lb) (hbb : b < w.heap.size) (hcap : m ≤ cap) (h8 : All8 lb) (hp8 : p.in8) (hw8 : i8 wd) (hh8 : i8 hi) (hmm : m ≤ 1048576)
    (R : Bool) (hR : R = boardOk wd hi lb) (lr : List Fl) (hlr : CpR R lb p lr) (T C : Int) (hQ : cpQ R lb p lr = (T, C)) :
    Calls Tryd.prog 8 #[.agg #[.int .i8 wd, .int .i8 hi, .slice (some ⟨b, 0, none⟩) m cap], .agg #[.int .i8 p.fx, .int .i8 p.fy, .int .i8 p.sd, .int .i8 p.tx, .int .i8 p.ty, .int .i8 p.ot]] w fun e w' => e = .returned (.tuple #[.int .i64 T, .int .i64 C]) ∧ Below w.heap.size w w' := by
  obtain ⟨W0, hW⟩ : ∃ W0, (w.alloc (.cells #[.int .i8 wd, .int .i8 hi, .slice (some ⟨b, 0, none⟩) m cap] 34)).alloc (.cells #[.int .i8 p.fx, .int .i8 p.fy, .int .i8 p.sd, .int .i8 p.tx, .int .i8 p.ty, .int .i8 p.ot] 38) = W0 := ⟨_, rfl⟩
  have k0 : Below w.heap.size w W0 := by rw [← hW]; exact kAlloc (kAlloc (Below.refl _ _) _) _
  have g0 : BdAt W0 w.heap.size 0 wd hi (.slice (some ⟨b, 0, none⟩) m cap) := by
    rw [← hW]; exact (BdAt.box w wd hi (.slice (some ⟨b, 0, none⟩) m cap) 34).below (kAlloc (Below.refl _ _) _) (by simp)
  have bY : W0.heap[w.heap.size + 1]? = some (.cells #[.int .i8 p.fx, .int .i8 p.fy, .int .i8 p.sd, .int .i8 p.tx, .int .i8 p.ty, .int .i8 p.ot] 38 (0, 0)) := by rw [← hW]; exact heap_two _ _ _
  have lX := g0.lt
  have lY := blk_lt bY
  obtain ⟨X, hX⟩ : ∃ X, w.heap.size = X := ⟨_, rfl⟩
  have hbX : b < X := by omega
  rw [hX] at g0 bY lX lY
  have HBD := Lib.hid (fun W2 (h2 : Below W0.heap.size W0 W2) => g0.below h2 lX)
  have HWY := Lib.hid (fun W2 (h2 : Below W0.heap.size W0 W2) => blk_below bY h2)
  have HPC := Lib.hid (fun W2 (h2 : Below W0.heap.size W0 W2) => (hq.below k0 hbb).below h2 (Nat.lt_of_lt_of_le hbb k0.size))
  have hbW : b < W0.heap.size := Nat.lt_of_lt_of_le hbb k0.size
  have HOK := Lib.hid (l01Ok_any X 0 b 0 m cap wd hi lb W0 hm g0 (hq.below k0 hbb) hbW hcap h8 hw8 hh8 hmm R hR)
  have HFD := Lib.hid (fun x y W2 (h2 : Below W0.heap.size W0 W2) => l01Find_any X 0 b 0 m cap wd hi x y lb W2 hm (HBD.out W2 h2) (HPC.out W2 h2) (Nat.lt_of_lt_of_le hbW h2.size) hcap hmm)
  have HK0 := Lib.hid k0
  have HX := Lib.hid hX
  have HW := Lib.hid hW
  have HQ := Lib.hid hQ
  have HLR := Lib.hid hlr
  have HM := Lib.hid hm
  have HR := Lib.hid hR
  have HP8 := Lib.hid hp8
  have H8 := Lib.hid h8
  clear hm hq hR hlr hQ hW bY k0 hp8 h8 g0 hX
  go_enter Tryd.func8, Tryd.ntmps8
  go_upto_region 1 with fail
  try rw [HW.out]
  try rw [HX.out]
  clear HW
  go_wp2_with fail
  refine HOK.out.mono ?_
  rintro e w1 ⟨rfl, hb1⟩
  have K1 := Lib.hid hb1
  clear HOK hb1
  cases R with
  | false =>
    have hQ := HQ.out
    obtain ⟨rfl, rfl⟩ : (0 : Int) = T ∧ (1 : Int) = C := by unfold cpQ at hQ; rw [if_pos rfl] at hQ; exact ⟨congrArg Prod.fst hQ, congrArg Prod.snd hQ⟩
    clear hQ HQ HLR
    go_wp2
    go_ret2
    exact ⟨rfl, kTrans HK0.out K1.out⟩
  | true =>
    have n1 := K1.out.size
    have lY1 : X + 1 < w1.heap.size := by omega
    have e0 : w1.cell? ⟨X + 1, 0, none⟩ = some (.int .i8 p.fx) := cell_of_row _ _ 0 _ _ _ (HWY.out _ K1.out)
    have e1 : w1.cell? ⟨X + 1, 1, none⟩ = some (.int .i8 p.fy) := cell_of_row _ _ 1 _ _ _ (HWY.out _ K1.out)
    go_wp2_with fail
    refine (HFD.out p.fx p.fy w1 K1.out).mono ?_
    rintro e w2 ⟨rfl, hb2⟩
    obtain ⟨ff, hff⟩ : ∃ ff, findFrom p.fx p.fy lb 0 = ff := ⟨_, rfl⟩
    rw [hff]
    have HFF := Lib.hid hff
    have K2 := Lib.hid (kTrans K1.out hb2)
    clear hff hb2 e0 e1 K1
    have n2 := K2.out.size
    have lY2 : X + 1 < w2.heap.size := by omega
    have e0 : w2.cell? ⟨X + 1, 3, none⟩ = some (.int .i8 p.tx) := cell_of_row _ _ 3 _ _ _ (HWY.out _ K2.out)
    have e1 : w2.cell? ⟨X + 1, 4, none⟩ = some (.int .i8 p.ty) := cell_of_row _ _ 4 _ _ _ (HWY.out _ K2.out)
    go_wp2_with fail
    refine (HFD.out p.tx p.ty w2 K2.out).mono ?_
    rintro e w3 ⟨rfl, hb3⟩
    obtain ⟨ft, hft⟩ : ∃ ft, findFrom p.tx p.ty lb 0 = ft := ⟨_, rfl⟩
    rw [hft]
    have HFT := Lib.hid hft
    have K3 := Lib.hid (kTrans K2.out hb3)
    clear hft hb3 e0 e1 K2 HFD
    have n3 := K3.out.size
    have lY3 : X + 1 < w3.heap.size := by omega
    have HCC := Lib.hid (show cpC true lb p = (decide (0 ≤ ff) && (decide (0 ≤ ft) && (decide (0 ≤ p.sd ∧ p.sd ≤ 3) && decide (0 ≤ p.ot ∧ p.ot ≤ 3)))) by unfold cpC; rw [HFF.out, HFT.out]; rfl)
    have bsd := HP8.out.2.2.1
    have bot := HP8.out.2.2.2.2.2
    unfold i8 at bsd bot
    have wsd : IntKind.i64.wrap p.sd = p.sd := IntWalk.i64_in _ (by omega)
    have wot : IntKind.i64.wrap p.ot = p.ot := IntWalk.i64_in _ (by omega)
    have HNO := Lib.hid (fun (h : cpC true lb p = false) => (show (0 : Int) = T ∧ (2 : Int) = C by
      have hQ := HQ.out; unfold cpQ at hQ; rw [if_neg (by decide), if_pos h] at hQ; exact ⟨congrArg Prod.fst hQ, congrArg Prod.snd hQ⟩))
    have HBK := Lib.hid (show Below w.heap.size w w3 from kTrans HK0.out K3.out)
    have e2 : w3.cell? ⟨X + 1, 2, none⟩ = some (.int .i8 p.sd) := cell_of_row _ _ 2 _ _ _ (HWY.out _ K3.out)
    have e5 : w3.cell? ⟨X + 1, 5, none⟩ = some (.int .i8 p.ot) := cell_of_row _ _ 5 _ _ _ (HWY.out _ K3.out)
    by_cases hf1 : ff < 0
    · obtain ⟨rfl, rfl⟩ := HNO.out (by rw [HCC.out, decide_eq_false (by omega : ¬ 0 ≤ ff)]; rfl)
      clear HQ HCC HNO
      go_wp2
      go_ret2
      exact ⟨rfl, HBK.out⟩
    by_cases hf2 : ft < 0
    · obtain ⟨rfl, rfl⟩ := HNO.out (by rw [HCC.out, decide_eq_false (by omega : ¬ 0 ≤ ft), Bool.and_comm]; simp)
      clear HQ HCC HNO
      go_wp2
      go_ret2
      exact ⟨rfl, HBK.out⟩
    obtain ⟨rs, hrs⟩ : ∃ r, r = decide (0 ≤ p.sd ∧ p.sd ≤ 3) := ⟨_, rfl⟩
    obtain ⟨ro, hro⟩ : ∃ r, r = decide (0 ≤ p.ot ∧ p.ot ≤ 3) := ⟨_, rfl⟩
    have HC2 := Lib.hid (show cpC true lb p = (rs && ro) by rw [HCC.out, decide_eq_true (by omega : 0 ≤ ff), decide_eq_true (by omega : 0 ≤ ft), hrs, hro]; rfl)
    have HRS := Lib.hid hrs
    have HRO := Lib.hid hro
    clear hrs hro HCC
    go_wp2_with fail
    refine (l01Side_any p.sd w3 rs HRS.out).mono ?_
    rintro e w' ⟨rfl, h⟩
    obtain rfl : w3 = w' := h
    cases rs with
    | false =>
      obtain ⟨rfl, rfl⟩ := HNO.out HC2.out
      clear HQ HC2 HNO HRS HRO
      go_wp2
      go_ret2
      exact ⟨rfl, HBK.out⟩
    | true =>
      go_wp2_with fail
      refine (l01Side_any p.ot w3 ro HRO.out).mono ?_
      rintro e w' ⟨rfl, h⟩
      obtain rfl : w3 = w' := h
      cases ro with
      | false =>
        obtain ⟨rfl, rfl⟩ := HNO.out HC2.out
        clear HQ HC2 HNO HRS HRO
        go_wp2
        go_ret2
        exact ⟨rfl, HBK.out⟩
      | true =>
        have ho3 := of_decide_eq_true HRO.out.symm
        have hs3 := of_decide_eq_true HRS.out.symm
        obtain ⟨k, rfl⟩ : ∃ k : Nat, ft = k := ⟨ft.toNat, by omega⟩
        obtain ⟨kf, rfl⟩ : ∃ k : Nat, ff = k := ⟨ff.toNat, by omega⟩
        have hcc : cpC true lb p = true := HC2.out
        obtain ⟨i1, hi1, hi2, hi3, hi4⟩ := find_at (x := p.fx) (y := p.fy) (l := lb) (by rw [HFF.out]; omega)
        rw [HFF.out] at hi2
        obtain rfl : kf = i1 := by omega
        have hkl : k < lb.length := by
          obtain ⟨i, hi_, h4, _⟩ := find_at (x := p.tx) (y := p.ty) (l := lb) (by rw [HFT.out]; omega)
          rw [HFT.out] at h4
          omega
        have hkm : k < m := by rw [← HM.out]; exact hkl
        have hbok : boardOk wd hi lb = true := HR.out.symm
        have hpok := cp_push hbok (by rw [hbok]; exact hcc)
        have hrt : RunsTo true lb [cpP p] lr := by have h := HLR.out.run; rwa [hcc] at h
        have hlen := (hrt.2 rfl).1
        have hlm : lr.length = m := by rw [hlen, HM.out]
        have hkr : k < lr.length := by omega
        obtain ⟨q, hqe⟩ : ∃ q, lb[k] = q := ⟨_, rfl⟩
        obtain ⟨f, hfe⟩ : ∃ f, lr[k] = f := ⟨_, rfl⟩
        have hfd : lr.getD k stay = f := by rw [List.getD_eq_getElem?_getD, List.getElem?_eq_getElem hkr]; exact hfe
        have hqi := of_decide_eq_true (boardOk_ok hbok _ (List.getElem_mem hkl))
        rw [hqe] at hqi
        have HPQ := Lib.hid (fun W2 (h2 : Below W0.heap.size W0 W2) => (show PcAt W2 b (k * 5) q by have h := HPC.out W2 h2 k hkl; rw [Nat.zero_add, hqe] at h; exact h))
        have HQ3 := Lib.hid (show cpB q f p.ot = (T, C) by
          have hQ := HQ.out
          unfold cpQ at hQ
          rw [if_neg (by decide), if_neg (by rw [hcc]; decide), HFT.out, Int.toNat_natCast, getD_pc hkl, hqe, hfd] at hQ
          exact hQ)
        have hrx : 0 ≤ f.tick → rxF q.kind q.turn f.frm = true := fun h => by
          have h7 := sol_rxC (hrt.2 rfl).2 hkl (by rw [hfd]; exact h)
          rw [getD_pc hkl, hqe, hfd] at h7
          exact h7
        have hff_ : 0 ≤ f.tick → f.tick ≤ 2800 ∧ 0 ≤ f.frm ∧ f.frm ≤ 3 := fun h => by rw [← hfd] at h ⊢; exact HLR.out.fine hcc k hkl h
        have HFR := Lib.hid (l02FromC_any X 0 b m cap wd hi kf p.sd lb (cpP p) w3 HM.out (HBD.out _ K3.out) (HPC.out _ K3.out) (by omega) hcap H8.out hmm (by rw [hbok, hpok]; rfl) hi1 hs3 (by unfold cpP; rw [hi3, hi4]) lr hrt)
        have HLM := Lib.hid hlm
        have HFE := Lib.hid hfe
        have hkrZ : (k : Int) < (m : Int) := by omega
        clear hcc hi2 hi3 hi4 hi1 hbok hpok hrt hlen hlm hqe hfd HC2 HRS HRO HFT HFF HLR HR HQ HNO
        go_wp2_with fail
        refine HFR.out.mono ?_
        rintro e w4 ⟨v, rfl, hv, hb4⟩
        have hv2 : ∃ g o c, v = .slice (some ⟨g, o, none⟩) m c ∧ FlAt w4 g (o + k * 3) f ∧ g < w4.heap.size ∧ m ≤ c := by
          cases hv with
          | mk g o c hc h1 h2 hg hf hle => exact ⟨g, o, c, by rw [HLM.out], by have := hc k hkr; rw [HFE.out] at this; exact this, hg, by rw [← HLM.out]; exact hle⟩
          | empty a c h => subst h; exact absurd hkr (by simp)
        obtain ⟨g, o, c, rfl, ⟨v0, v1, v2⟩, lg, hmc⟩ := hv2
        have K4 := Lib.hid (kTrans K3.out hb4)
        clear hv hb4 HFR e2 e5
        have n4 := K4.out.size
        have lX4 : X < w4.heap.size := by omega
        have lY4 : X + 1 < w4.heap.size := by omega
        have hb4 : b < w4.heap.size := by omega
        obtain ⟨s0, s1, s2⟩ := HBD.out w4 K4.out
        simp only [Nat.zero_add] at s0 s1 s2
        obtain ⟨u0, u1, u2, u3, u4⟩ := HPQ.out w4 K4.out
        have wo : w4.cell? ⟨X + 1, 5, none⟩ = some (.int .i8 p.ot) := cell_of_row _ _ 5 _ _ _ (HWY.out _ K4.out)
        by_cases hneg : f.tick < 0
        · have hQ := HQ3.out
          obtain ⟨rfl, rfl⟩ : (0 : Int) = T ∧ (6 : Int) = C := by unfold cpB at hQ; rw [if_neg (fun h => by omega)] at hQ; exact ⟨congrArg Prod.fst hQ, congrArg Prod.snd hQ⟩
          clear hQ HQ3
          go_wp2
          go_ret2
          exact ⟨rfl, kTrans HK0.out K4.out⟩
        · obtain ⟨hf1_, hf2_, hf3_⟩ := hff_ (by omega)
          have HHT := Lib.hid (fun W (h : PcAt W b (k * 5) q) (hl : b < W.heap.size) => l01Hits_any q b (k * 5) f.frm W (by omega) (by omega) (by omega) h hl)
          have wfr : IntKind.i64.wrap f.frm = f.frm := IntWalk.i64_in _ (by omega)
          go_wp2_with fail
          refine (HHT.out w4 (HPQ.out w4 K4.out) hb4).mono ?_
          rintro e w5 ⟨rfl, hb5⟩
          have v0d := (hb5.cell (p := ⟨g, o + k * 3, none⟩) lg).trans v0
          have u4d := (hb5.cell (p := ⟨b, k * 5 + 4, none⟩) hb4).trans u4
          have wod := (hb5.cell (p := ⟨X + 1, 5, none⟩) lY4).trans wo
          have K5 := Lib.hid (kTrans K4.out hb5)
          have l5 := hb5.size
          obtain ⟨on, hon⟩ : ∃ on : Nat, p.ot = on := ⟨p.ot.toNat, by omega⟩
          have hon4 : on < 4 := by omega
          have hbit := rxB_bit (hrx (by omega)) on hon4
          have hrg := @rxB_range q.kind q.turn f.frm
          have hr0 := hrg.2.2.2 (hrx (by omega))
          have hr1 := hrg.2.1
          obtain ⟨r, hr⟩ : ∃ r, rxB q.kind q.turn f.frm = r := ⟨_, rfl⟩
          rw [hr] at hbit hr0 hr1 ⊢
          obtain ⟨s, hs⟩ : ∃ s, r / 2 ^ on = s := ⟨_, rfl⟩
          have hs0 : 0 ≤ s := by rw [← hs]; exact Int.ediv_nonneg hr0 (by exact_mod_cast Nat.zero_le _)
          have hs1 : s ≤ 15 := by rw [← hs]; exact Int.le_trans (Int.ediv_le_self _ hr0) hr1
          rw [hs] at hbit
          rw [hon] at wod wot
          have hou : IntKind.u64.wrap (on : Int) = on := IntWalk.u64_in _ (by omega)
          have hQ := HQ3.out
          unfold cpB at hQ
          rw [hon] at hQ
          have htm : Int.tmod s 2 = s % 2 := tmod_bit hs0
          clear HQ3 hrx hrg hon hr
          have h4 : on = 0 ∨ on = 1 ∨ on = 2 ∨ on = 3 := by omega
          have v0e := v0d
          obtain ⟨Z0, hz0⟩ : ∃ z : Int, s % 2 = z := ⟨_, rfl⟩
          rw [hz0] at hbit htm
          cases g : rxH q.kind q.turn f.frm on with
          | false =>
            obtain ⟨rfl, rfl⟩ : (0 : Int) = T ∧ (6 : Int) = C := by rw [if_neg (fun h => by rw [g] at h; cases h.2)] at hQ; exact ⟨congrArg Prod.fst hQ, congrArg Prod.snd hQ⟩
            rw [g] at hbit
            obtain rfl : Z0 = 0 := hbit
            clear hQ g hz0
            go_wp2
            go_ret2
            exact ⟨rfl, kTrans HK0.out K5.out⟩
          | true =>
            obtain ⟨rfl, rfl⟩ : f.tick + q.delay = T ∧ (0 : Int) = C := by rw [if_pos ⟨by omega, g⟩] at hQ; exact ⟨congrArg Prod.fst hQ, congrArg Prod.snd hQ⟩
            rw [g] at hbit
            obtain rfl : Z0 = 1 := hbit
            clear hQ g hz0
            have wdl : IntKind.i64.wrap q.delay = q.delay := IntWalk.i64_in _ (by omega)
            have wdt : IntKind.i64.wrap (f.tick + q.delay) = f.tick + q.delay := IntWalk.i64_in _ (by omega)
            have wdu : wrap64 (f.tick + q.delay) = f.tick + q.delay := wr64c (by omega)
            go_wp2_with fail
            go_quiet (fail)
            go_wp2
            go_ret2
            exact ⟨rfl, kDrewN (kTrans HK0.out K5.out) _⟩
end Go.Proofs.YtflkfkbdgekpkaaDoor
