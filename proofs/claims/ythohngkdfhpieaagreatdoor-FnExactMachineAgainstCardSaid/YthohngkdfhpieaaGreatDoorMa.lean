/- MachineAgainst: both sides. -/
import Derived.Test.YthohngkdfhpieaaGreatDoorG16
import Derived.Test.YthohngkdfhpieaaGreatDoorG22
namespace Go.Proofs.YthohngkdfhpieaaGreatDoor
open Go.ChangeShapes Go.WideShapes Go.ChangeAt Go.RowKit Go.Shelf Go.Joins Go.Deep
set_option linter.unusedVariables false
set_option linter.unusedSimpArgs false

theorem pair_LQ2 {a c : List Int} {b d : Int} (h : (a, b) = (c, d)) : a = c ∧ b = d := by injection h with h1 h2; exact ⟨h1, h2⟩
def maQ (M R : Bool) (n : Nat) (ni : Int) (r np x : Nat) : Int × Int := if M = true ∧ R = true then (if (n : Int) = ni ∧ r = np then leastQ x else (0, 4)) else (0, 1)
theorem ne_factsI {a b : Int} (h : a ≠ b) : (a != b) = true ∧ (a == b) = false := ⟨by simpa using h, by simpa using h⟩
set_option maxRecDepth 100000 in
set_option maxHeartbeats 16000000 in
theorem implMachineAgainst_any (w : World) (b k q m n r : Nat) (wd hi : Int) (l : List Pc) (p : List Po) (c : List Cl) (hp : PcsAt w b 0 l) (hg : PosAt w k 0 p) (hj : ClsAt w q 0 c) (zb : b < w.heap.size) (zk : k < w.heap.size) (zq : q < w.heap.size)
    (hm : l.length = m) (hn : p.length = n) (hr : c.length = r) (h8 : All8 l) (hw : PosWf p) (bw : i8 wd) (bh : i8 hi) (mx0 : m ≤ 1048576) (mx1 : n ≤ 1048576) (mx2 : r ≤ 1048576) (M : Bool) (hM : M = machOk wd hi l p c) (F : Nat → List Fl) (hF : M = true → AnsAt wd hi l p c n F) (N : Nat) (hN : 2 ^ n = N)
    (bz kz : Nat) (ni : Int) (lz : List Nd) (pz : List Int) (hz : NK w bz kz lz pz) (h8z : NdsWf lz) (h9z : ShsWf pz) (bwz : i8 ni) (mz0 : lz.length ≤ 1048576) (mz1 : pz.length ≤ 1048576) (R : Bool) (hR : R = netOk ni lz pz) (hst : StayTab w) (x : Nat) (hx : apartA (tabsM (ansL l c F N) r N) (pickT (tabsL ni.toNat lz []) pz) 0 = (x : Int)) (hx64 : x < 18446744073709551616) (E C : Int) (hQ : maQ M R n ni r pz.length x = (E, C)) :
    Calls Tryz.prog 22 #[.agg #[.int .i8 wd, .int .i8 hi, .slice (some ⟨b, 0, none⟩) m m, .slice (some ⟨k, 0, none⟩) n n, .slice (some ⟨q, 0, none⟩) r r], .agg #[.int .i8 ni, .slice (some ⟨bz, 0, none⟩) lz.length lz.length, .slice (some ⟨kz, 0, none⟩) pz.length pz.length]] w (fun e w' => e = .returned (.tuple #[.int .i64 E, .int .i64 C]) ∧ Below w.heap.size w w') := by
  obtain ⟨W0, hW0⟩ : ∃ W0, (w.alloc (.cells #[.int .i8 wd, .int .i8 hi, .slice (some ⟨b, 0, none⟩) m m, .slice (some ⟨k, 0, none⟩) n n, .slice (some ⟨q, 0, none⟩) r r] 40)).alloc (.cells #[.int .i8 ni, .slice (some ⟨bz, 0, none⟩) lz.length lz.length, .slice (some ⟨kz, 0, none⟩) pz.length pz.length] 58) = W0 := ⟨_, rfl⟩
  have k0 : Below w.heap.size w W0 := by rw [← hW0]; exact kAlloc (kAlloc (Below.refl _ _) _) _
  have sz0 : W0.heap.size = w.heap.size + 1 + 1 := by rw [← hW0]; simp
  have bA : W0.heap[w.heap.size]? = some (.cells #[.int .i8 wd, .int .i8 hi, .slice (some ⟨b, 0, none⟩) m m, .slice (some ⟨k, 0, none⟩) n n, .slice (some ⟨q, 0, none⟩) r r] 40 (0, 0)) := by rw [← hW0]; exact (Below.heap_alloc _ _ _ (by simp)).trans (heap_alloc_new _ _)
  have bZ : W0.heap[w.heap.size + 1]? = some (.cells #[.int .i8 ni, .slice (some ⟨bz, 0, none⟩) lz.length lz.length, .slice (some ⟨kz, 0, none⟩) pz.length pz.length] 58 (0, 0)) := by
    rw [← hW0]
    have h := heap_alloc_new (w.alloc (.cells #[.int .i8 wd, .int .i8 hi, .slice (some ⟨b, 0, none⟩) m m, .slice (some ⟨k, 0, none⟩) n n, .slice (some ⟨q, 0, none⟩) r r] 40)) (.cells #[.int .i8 ni, .slice (some ⟨bz, 0, none⟩) lz.length lz.length, .slice (some ⟨kz, 0, none⟩) pz.length pz.length] 58)
    simpa only [World.size_alloc] using h
  have HV := Lib.hid (fun W (ka : Below w.heap.size w W) => by have h := deviceOf_any b k q wd hi l p c W (hp.below ka zb) (hg.below ka zk) (hj.below ka zq) (Nat.lt_of_lt_of_le zb ka.size) (Nat.lt_of_lt_of_le zk ka.size) (Nat.lt_of_lt_of_le zq ka.size) h8 hw (by omega) (by omega) (by omega) M hM; rw [hm, hn, hr] at h; exact h)
  have HO := Lib.hid (fun W (h : Below w.heap.size w W) L C hq => implOutputTables_any bz kz ni lz pz W (hz.below h) h8z h9z bwz mz0 mz1 R hR L C hq)
  have HP := Lib.hid (fun W (h : Below w.heap.size w W) => hp.below h zb)
  have HG := Lib.hid (fun W (h : Below w.heap.size w W) => hg.below h zk)
  have HC := Lib.hid (fun W (h : Below w.heap.size w W) => hj.below h zq)
  have Hm := Lib.hid hm
  have Hn := Lib.hid hn
  have Hr := Lib.hid hr
  have HM := Lib.hid hM
  have HFF := Lib.hid hF
  have HNN := Lib.hid hN
  have HNW := Lib.hid (fun W (h : Below w.heap.size w W) => hz.below h)
  have HRR := Lib.hid hR
  have HX := Lib.hid hx
  have HQ := Lib.hid hQ
  have HS := Lib.hid (fun W (h : Below w.heap.size w W) => hst.below h)
  have HW0 := Lib.hid hW0
  have HK0 := Lib.hid k0
  have HBA := Lib.hid (fun W (h : Below W0.heap.size W0 W) => blk_below bA h)
  have HBZ := Lib.hid (fun W (h : Below W0.heap.size W0 W) => blk_below bZ h)
  have y0 := bA
  have ca0 : W0.cell? ⟨w.heap.size, 0, none⟩ = some (.int .i8 wd) := cell_of_row _ _ 0 _ _ _ (y0)
  have ca1 : W0.cell? ⟨w.heap.size, 1, none⟩ = some (.int .i8 hi) := cell_of_row _ _ 1 _ _ _ (y0)
  have ca2 : W0.cell? ⟨w.heap.size, 2, none⟩ = some (.slice (some ⟨b, 0, none⟩) m m) := cell_of_row _ _ 2 _ _ _ (y0)
  have ca3 : W0.cell? ⟨w.heap.size, 3, none⟩ = some (.slice (some ⟨k, 0, none⟩) n n) := cell_of_row _ _ 3 _ _ _ (y0)
  have ca4 : W0.cell? ⟨w.heap.size, 4, none⟩ = some (.slice (some ⟨q, 0, none⟩) r r) := cell_of_row _ _ 4 _ _ _ (y0)
  clear hp hg hj hm hn hr h8 hw hM hF hN hz h8z h9z hR hx hQ hst y0 bA bZ hW0
  go_enter Tryz.func22, Tryz.ntmps22
  go_upto_region 1 with fail
  try rw [HW0.out]
  clear HW0
  go_wp2_with fail
  refine (HV.out W0 HK0.out).mono ?_
  rintro e w1 ⟨h1, h1', hb1⟩
  clear ca0 ca1 ca2 ca3 ca4 HV
  cases M with
  | false =>
    obtain rfl := h1' rfl
    obtain ⟨rfl, rfl⟩ := pair_LQ (show ((0 : Int), (1 : Int)) = (E, C) by rw [← HQ.out]; unfold maQ; rw [if_neg (by simp)])
    have T1 := kTrans HK0.out hb1
    clear h1 h1' HQ HX HS HO
    go_wp2
    exact bodyPost_ret (v := .tuple #[.int .i64 0, .int .i64 1]) (by simp [results, Tryz.results22, go_sem]) rfl ⟨rfl, by repeat (first | with_reducible exact Below.refl _ _ | (with_reducible refine kSet ?_ ?hB _; case hB => (simp; try omega)) | with_reducible refine kAlloc ?_ _ | with_reducible refine Below.drew ?_ | with_reducible refine kDrewN ?_ _ | with_reducible refine kTrans ?_ (by assumption))⟩
  | true =>
    obtain ⟨B, rfl, hmpB⟩ := h1 rfl
    have hmp := machOk_parts HM.out.symm
    rw [Hm.out, Hn.out, Hr.out] at hmp
    have h6 := hmp.2.1.2.1.2
    have hr8 := hmp.2.1.2.2.2
    have hr1 := hmp.2.1.2.2.1
    have h60 := hmp.2.1.1
    have Hf := Lib.hid (HFF.out rfl)
    clear hmp HFF
    clear h1 h1'
    obtain ⟨W1, hW1⟩ : ∃ W1, w1.alloc (.cells #[.int .i8 wd, .int .i8 hi, .map (some B), .int .i8 wd, .int .i8 hi, .slice (some ⟨b, 0, none⟩) m m, .slice (some ⟨k, 0, none⟩) n n, .slice (some ⟨q, 0, none⟩) r r] 89) = W1 := ⟨_, rfl⟩
    have kW1 : Below w1.heap.size w1 W1 := by rw [← hW1]; exact kAlloc (Below.refl _ _) _
    have sz1 : w1.heap.size < W1.heap.size := by rw [← hW1]; simp
    have bD1 : W1.heap[w1.heap.size]? = some (.cells #[.int .i8 wd, .int .i8 hi, .map (some B), .int .i8 wd, .int .i8 hi, .slice (some ⟨b, 0, none⟩) m m, .slice (some ⟨k, 0, none⟩) n n, .slice (some ⟨q, 0, none⟩) r r] 89 (0, 0)) := by rw [← hW1]; exact heap_alloc_new _ _
    have HB01 := Lib.hid (kTrans hb1 kW1)
    have HT1 := Lib.hid (kTrans HK0.out (kTrans hb1 kW1))
    have HMp := Lib.hid (hmpB.below kW1)
    have bZ2 := HBZ.out W1 HB01.out
    have cz0 : W1.cell? ⟨w.heap.size + 1, 0, none⟩ = some (.int .i8 ni) := cell_of_row _ _ 0 _ _ _ (bZ2)
    have cz1 : W1.cell? ⟨w.heap.size + 1, 1, none⟩ = some (.slice (some ⟨bz, 0, none⟩) lz.length lz.length) := cell_of_row _ _ 1 _ _ _ (bZ2)
    have cz2 : W1.cell? ⟨w.heap.size + 1, 2, none⟩ = some (.slice (some ⟨kz, 0, none⟩) pz.length pz.length) := cell_of_row _ _ 2 _ _ _ (bZ2)
    have lz1 := blk_lt bZ2
    have HBD := Lib.hid bD1
    have HW1 := Lib.hid hW1
    clear hW1 bZ2 hb1 hmpB bD1 kW1
    go_upto_region 2 with fail
    try rw [HW1.out]
    clear HW1
    obtain ⟨L, Ck, hoq⟩ : ∃ L Ck, outTQ R ni.toNat lz pz = (L, Ck) := ⟨_, _, rfl⟩
    have HOO := Lib.hid (HO.out W1 HT1.out L Ck hoq)
    have HOQ := Lib.hid hoq
    clear hoq HO
    go_wp2_with fail
    refine (HOO.out).mono ?_
    rintro e w2 ⟨v, rfl, hs2, hb2⟩
    have HT2 := Lib.hid (kTrans HT1.out hb2)
    have HB02 := kTrans HB01.out hb2
    clear HOO
    cases R with
    | false =>
      obtain ⟨rfl, rfl⟩ := pair_LQ2 (show (([] : List Int), (1 : Int)) = (L, Ck) from HOQ.out)
      obtain ⟨rfl, rfl⟩ := pair_LQ (show ((0 : Int), (1 : Int)) = (E, C) by rw [← HQ.out]; unfold maQ; rw [if_neg (by simp)])
      obtain ⟨va, vc, rfl⟩ := hs2.form
      clear HQ HX HS hs2 hb2 cz0 cz1 cz2
      go_wp2
      exact bodyPost_ret (v := .tuple #[.int .i64 0, .int .i64 1]) (by simp [results, Tryz.results22, go_sem]) rfl ⟨rfl, HT2.out⟩
    | true =>
      obtain ⟨hL, rfl⟩ := pair_LQ2 (show ((pickT (tabsL ni.toNat lz []) pz), (0 : Int)) = (L, Ck) from HOQ.out)
      rw [hL] at HX
      have hlen : L.length = pz.length := by rw [← hL]; exact pickT_length _ _
      obtain ⟨va, vc, rfl⟩ := hs2.form
      have hnp := netOk_parts HRR.out.symm
      have bA2 := HBA.out w2 HB02
      have bZ2 := HBZ.out w2 HB02
      have ca0 : w2.cell? ⟨w.heap.size, 0, none⟩ = some (.int .i8 wd) := cell_of_row _ _ 0 _ _ _ (bA2)
      have ca1 : w2.cell? ⟨w.heap.size, 1, none⟩ = some (.int .i8 hi) := cell_of_row _ _ 1 _ _ _ (bA2)
      have ca2 : w2.cell? ⟨w.heap.size, 2, none⟩ = some (.slice (some ⟨b, 0, none⟩) m m) := cell_of_row _ _ 2 _ _ _ (bA2)
      have ca3 : w2.cell? ⟨w.heap.size, 3, none⟩ = some (.slice (some ⟨k, 0, none⟩) n n) := cell_of_row _ _ 3 _ _ _ (bA2)
      have ca4 : w2.cell? ⟨w.heap.size, 4, none⟩ = some (.slice (some ⟨q, 0, none⟩) r r) := cell_of_row _ _ 4 _ _ _ (bA2)
      clear cz0 cz1 cz2
      have cz0 : w2.cell? ⟨w.heap.size + 1, 0, none⟩ = some (.int .i8 ni) := cell_of_row _ _ 0 _ _ _ (bZ2)
      have cz1 : w2.cell? ⟨w.heap.size + 1, 1, none⟩ = some (.slice (some ⟨bz, 0, none⟩) lz.length lz.length) := cell_of_row _ _ 1 _ _ _ (bZ2)
      have cz2 : w2.cell? ⟨w.heap.size + 1, 2, none⟩ = some (.slice (some ⟨kz, 0, none⟩) pz.length pz.length) := cell_of_row _ _ 2 _ _ _ (bZ2)
      have HMp2 := Lib.hid (HMp.out.below hb2)
      have HBD2 := Lib.hid (blk_below HBD.out hb2)
      have HD := Lib.hid (fun W (h : Below w2.heap.size w2 W) => (⟨HMp2.out.below h, HP.out _ (kTrans HT2.out h), HG.out _ (kTrans HT2.out h), HC.out _ (kTrans HT2.out h), Nat.lt_of_lt_of_le zb (kTrans HT2.out h).size, Nat.lt_of_lt_of_le zk (kTrans HT2.out h).size, Nat.lt_of_lt_of_le zq (kTrans HT2.out h).size, (HS.out _ (kTrans HT2.out h)).1⟩ : DvAt W B b k q l p c))
      have HSL := Lib.hid hs2
      have lA2 := blk_lt bA2
      have lZ2 := blk_lt bZ2
      have bni := bwz
      unfold i8 at bni
      clear hs2 hb2 bA2 bZ2 HMp HBA HBZ HB02 hL HOQ hnp
      rw [hlen] at HSL ⊢
      have HLN := Lib.hid hlen
      clear hlen
      by_cases hne : (n : Int) = ni
      · by_cases hre : r = pz.length
        · have HQ2 := Lib.hid (show leastQ x = (E, C) by rw [← HQ.out]; unfold maQ; rw [if_pos ⟨rfl, rfl⟩, if_pos ⟨hne, hre⟩])
          have HTA := Lib.hid (fun W (h : Below w2.heap.size w2 W) => mtables_any B b k q m n r wd hi l p c W (HD.out _ h) Hm.out Hn.out Hr.out h6 hr8 F Hf.out N HNN.out)
          obtain ⟨A1, hA1⟩ : ∃ A1, (tabsM (ansL l c F N) r N) = A1 := ⟨_, rfl⟩
          have hl1 : A1.length = r := by rw [← hA1]; exact tabsM_length _ _ _
          rw [hA1] at HTA HX
          have HL1 := Lib.hid hl1
          obtain ⟨g2, o2, rfl, hu2, hg2, hc2, -⟩ := slUs_some HSL.out (by rw [HLN.out, ← hre]; omega)
          have HU2 := Lib.hid hu2
          rw [HLN.out] at hc2
          obtain ⟨np, hnp⟩ : ∃ np, pz.length = np := ⟨_, rfl⟩
          rw [hnp] at hre HLN hc2 ⊢
          subst hne hre
          clear HQ hA1 hl1 hu2 HSL hnp
          go_upto_region 9 with fail
          clear ca0 ca1 ca2 ca3 ca4 cz0 cz1 cz2
          have d0 : w2.cell? ⟨w1.heap.size, 0, none⟩ = some (.int .i8 wd) := cell_of_row _ _ 0 _ _ _ (HBD2.out)
          have d1 : w2.cell? ⟨w1.heap.size, 1, none⟩ = some (.int .i8 hi) := cell_of_row _ _ 1 _ _ _ (HBD2.out)
          have d2 : w2.cell? ⟨w1.heap.size, 2, none⟩ = some (.map (some B)) := cell_of_row _ _ 2 _ _ _ (HBD2.out)
          have d3 : w2.cell? ⟨w1.heap.size, 3, none⟩ = some (.int .i8 wd) := cell_of_row _ _ 3 _ _ _ (HBD2.out)
          have d4 : w2.cell? ⟨w1.heap.size, 4, none⟩ = some (.int .i8 hi) := cell_of_row _ _ 4 _ _ _ (HBD2.out)
          have d5 : w2.cell? ⟨w1.heap.size, 5, none⟩ = some (.slice (some ⟨b, 0, none⟩) m m) := cell_of_row _ _ 5 _ _ _ (HBD2.out)
          have d6 : w2.cell? ⟨w1.heap.size, 6, none⟩ = some (.slice (some ⟨k, 0, none⟩) n n) := cell_of_row _ _ 6 _ _ _ (HBD2.out)
          have d7 : w2.cell? ⟨w1.heap.size, 7, none⟩ = some (.slice (some ⟨q, 0, none⟩) r r) := cell_of_row _ _ 7 _ _ _ (HBD2.out)
          have lD := blk_lt HBD2.out
          go_wp2_with fail
          refine (HTA.out w2 (Below.refl _ _)).mono ?_
          rintro e w5 ⟨v5, rfl, hs5, hb5⟩
          obtain ⟨va5, vc5, rfl⟩ := hs5.form
          obtain ⟨g5, o5, rfl, hu5, hg5, hc5, -⟩ := slUs_some hs5 (by rw [HL1.out]; omega)
          have HU5 := Lib.hid hu5
          have HU25 := Lib.hid (HU2.out.below hb5 hg2)
          have hg25 := Nat.lt_of_lt_of_le hg2 hb5.size
          have HT5 := Lib.hid (kTrans HT2.out hb5)
          rw [HL1.out] at hc5 ⊢
          have HRA := Lib.hid (rowApart_any g5 o5 g2 o2 r vc5 vc A1 L w5 HL1.out HLN.out HU5.out HU25.out hg5 hg25 (by omega) hc5 hc2 (HS.out _ HT5.out).2 x HX.out hx64 E C HQ2.out)
          clear hs5 hb5 hu5 HTA d0 d1 d2 d3 d4 d5 d6 d7
          go_wp2_with fail
          refine (HRA.out).mono ?_
          rintro e w7 ⟨rfl, hb7⟩
          go_wp2
          exact bodyPost_ret (v := .tuple #[.int .i64 E, .int .i64 C]) (by simp [results, Tryz.results22, go_sem]) rfl ⟨rfl, kTrans HT5.out hb7⟩
        · obtain ⟨hre1, hre2⟩ := ne_facts hre
          obtain ⟨rfl, rfl⟩ := pair_LQ (show ((0 : Int), (4 : Int)) = (E, C) by rw [← HQ.out]; unfold maQ; rw [if_pos ⟨rfl, rfl⟩, if_neg (fun h => hre h.2)])
          subst hne
          clear HQ HX HSL HLN
          go_wp2
          exact bodyPost_ret (v := .tuple #[.int .i64 0, .int .i64 4]) (by simp [results, Tryz.results22, go_sem]) rfl ⟨rfl, HT2.out⟩
      · obtain ⟨hne1, hne2⟩ := ne_factsI hne
        obtain ⟨rfl, rfl⟩ := pair_LQ (show ((0 : Int), (4 : Int)) = (E, C) by rw [← HQ.out]; unfold maQ; rw [if_pos ⟨rfl, rfl⟩, if_neg (fun h => hne h.1)])
        clear HQ HX HSL HLN
        go_wp2
        exact bodyPost_ret (v := .tuple #[.int .i64 0, .int .i64 4]) (by simp [results, Tryz.results22, go_sem]) rfl ⟨rfl, HT2.out⟩
set_option maxRecDepth 100000 in
set_option maxHeartbeats 16000000 in
theorem specMachineAgainst_any (w : World) (b k q m n r : Nat) (wd hi : Int) (l : List Pc) (p : List Po) (c : List Cl) (hp : PcsAt w b 0 l) (hg : PosAt w k 0 p) (hj : ClsAt w q 0 c) (zb : b < w.heap.size) (zk : k < w.heap.size) (zq : q < w.heap.size)
    (hm : l.length = m) (hn : p.length = n) (hr : c.length = r) (h8 : All8 l) (hw : PosWf p) (bw : i8 wd) (bh : i8 hi) (mx0 : m ≤ 1048576) (mx1 : n ≤ 1048576) (mx2 : r ≤ 1048576) (M : Bool) (hM : M = machOk wd hi l p c) (F : Nat → List Fl) (hF : M = true → AnsAt wd hi l p c n F) (N : Nat) (hN : 2 ^ n = N)
    (bz kz : Nat) (ni : Int) (lz : List Nd) (pz : List Int) (hz : NK w bz kz lz pz) (h8z : NdsWf lz) (h9z : ShsWf pz) (bwz : i8 ni) (mz0 : lz.length ≤ 1048576) (mz1 : pz.length ≤ 1048576) (R : Bool) (hR : R = netOk ni lz pz) (x : Nat) (hx : apartA (tabsM (ansL l c F N) r N) (pickT (tabsL ni.toNat lz []) pz) 0 = (x : Int)) (hx64 : x < 18446744073709551616) (E C : Int) (hQ : maQ M R n ni r pz.length x = (E, C)) :
    Calls Tryz.prog 20 #[.agg #[.int .i8 wd, .int .i8 hi, .slice (some ⟨b, 0, none⟩) m m, .slice (some ⟨k, 0, none⟩) n n, .slice (some ⟨q, 0, none⟩) r r], .agg #[.int .i8 ni, .slice (some ⟨bz, 0, none⟩) lz.length lz.length, .slice (some ⟨kz, 0, none⟩) pz.length pz.length]] w (fun e w' => e = .returned (.tuple #[.int .i64 E, .int .i64 C]) ∧ Below w.heap.size w w') := by
  obtain ⟨W0, hW0⟩ : ∃ W0, (w.alloc (.cells #[.int .i8 wd, .int .i8 hi, .slice (some ⟨b, 0, none⟩) m m, .slice (some ⟨k, 0, none⟩) n n, .slice (some ⟨q, 0, none⟩) r r] 40)).alloc (.cells #[.int .i8 ni, .slice (some ⟨bz, 0, none⟩) lz.length lz.length, .slice (some ⟨kz, 0, none⟩) pz.length pz.length] 58) = W0 := ⟨_, rfl⟩
  have k0 : Below w.heap.size w W0 := by rw [← hW0]; exact kAlloc (kAlloc (Below.refl _ _) _) _
  have mA : McAt W0 w.heap.size wd hi (.slice (some ⟨b, 0, none⟩) m m) (.slice (some ⟨k, 0, none⟩) n n) (.slice (some ⟨q, 0, none⟩) r r) := by
    rw [← hW0]; exact (McAt.box w wd hi _ _ _ 40).below (kAlloc (Below.refl _ _) _) (McAt.box w wd hi _ _ _ 40).lt
  have mZ : NwAt W0 (w.heap.size + 1) ni (.slice (some ⟨bz, 0, none⟩) lz.length lz.length) (.slice (some ⟨kz, 0, none⟩) pz.length pz.length) := by
    rw [← hW0]
    have h := NwAt.box (w.alloc (.cells #[.int .i8 wd, .int .i8 hi, .slice (some ⟨b, 0, none⟩) m m, .slice (some ⟨k, 0, none⟩) n n, .slice (some ⟨q, 0, none⟩) r r] 40)) ni (.slice (some ⟨bz, 0, none⟩) lz.length lz.length) (.slice (some ⟨kz, 0, none⟩) pz.length pz.length) 58
    rw [World.size_alloc] at h
    exact h
  have lA := mA.lt
  have lZ := mZ.lt
  have HA0 := Lib.hid (fun W (h : Below W0.heap.size W0 W) => mA.below h mA.lt)
  have HZ0 := Lib.hid (fun W (h : Below W0.heap.size W0 W) => mZ.below h mZ.lt)
  have HV := Lib.hid (fun W (h : Below W0.heap.size W0 W) => l03Ok_any w.heap.size b k q m n r wd hi l p c W hm hn hr (HA0.out W h) (hp.below (kTrans k0 h) zb) (hg.below (kTrans k0 h) zk) (hj.below (kTrans k0 h) zq) (Nat.lt_of_lt_of_le zb (kTrans k0 h).size) (Nat.lt_of_lt_of_le zk (kTrans k0 h).size) (Nat.lt_of_lt_of_le zq (kTrans k0 h).size) h8 hw bw bh mx0 mx1 mx2 M hM)
  have HVz := Lib.hid (fun W (h : Below W0.heap.size W0 W) => l04Ok_any (w.heap.size + 1) bz kz ni lz pz W (HZ0.out W h) (hz.below (kTrans k0 h)) h8z h9z bwz mz0 mz1 R hR)
  have HP := Lib.hid (fun W (h : Below w.heap.size w W) => hp.below h zb)
  have HG := Lib.hid (fun W (h : Below w.heap.size w W) => hg.below h zk)
  have HC := Lib.hid (fun W (h : Below w.heap.size w W) => hj.below h zq)
  have Hm := Lib.hid hm
  have Hn := Lib.hid hn
  have Hr := Lib.hid hr
  have HM := Lib.hid hM
  have HFF := Lib.hid hF
  have HNN := Lib.hid hN
  have HNW := Lib.hid (fun W (h : Below w.heap.size w W) => hz.below h)
  have HRR := Lib.hid hR
  have HX := Lib.hid hx
  have HQ := Lib.hid hQ
  have HW0 := Lib.hid hW0
  have HK0 := Lib.hid k0
  clear hp hg hj hm hn hr h8 hw hM hF hN hz h8z h9z hR hx hQ hW0 mA mZ
  go_enter Tryz.func20, Tryz.ntmps20
  go_upto_region 1 with fail
  try rw [HW0.out]
  clear HW0
  go_wp2_with fail
  refine (HV.out W0 (Below.refl _ _)).mono ?_
  rintro e w1 ⟨rfl, hb1⟩
  have T1 := kTrans HK0.out hb1
  clear HV
  cases M with
  | false =>
    obtain ⟨rfl, rfl⟩ := pair_LQ (show ((0 : Int), (1 : Int)) = (E, C) by rw [← HQ.out]; unfold maQ; rw [if_neg (by simp)])
    clear HQ HX HVz
    go_wp2
    exact bodyPost_ret (v := .tuple #[.int .i64 0, .int .i64 1]) (by simp [results, Tryz.results20, go_sem]) rfl ⟨rfl, T1⟩
  | true =>
    have hmp := machOk_parts HM.out.symm
    rw [Hm.out, Hn.out, Hr.out] at hmp
    have h6 := hmp.2.1.2.1.2
    have hr8 := hmp.2.1.2.2.2
    have hr1 := hmp.2.1.2.2.1
    have h60 := hmp.2.1.1
    have Hf := Lib.hid (HFF.out rfl)
    clear hmp HFF
    go_wp2_with fail
    refine (HVz.out w1 hb1).mono ?_
    rintro e w2 ⟨rfl, hb2⟩
    have HB2 := Lib.hid (kTrans hb1 hb2)
    have HT2 := Lib.hid (kTrans T1 hb2)
    clear HVz hb1 hb2
    cases R with
    | false =>
      obtain ⟨rfl, rfl⟩ := pair_LQ (show ((0 : Int), (1 : Int)) = (E, C) by rw [← HQ.out]; unfold maQ; rw [if_neg (by simp)])
      clear HQ HX
      go_wp2
      exact bodyPost_ret (v := .tuple #[.int .i64 0, .int .i64 1]) (by simp [results, Tryz.results20, go_sem]) rfl ⟨rfl, HT2.out⟩
    | true =>
      obtain ⟨x0, x1, x2, x3, x4⟩ := HA0.out w2 HB2.out
      obtain ⟨y0, y1, y2⟩ := HZ0.out w2 HB2.out
      have s2 := HB2.out.size
      have lA2 : w.heap.size < w2.heap.size := Nat.lt_of_lt_of_le lA s2
      have lZ2 : w.heap.size + 1 < w2.heap.size := Nat.lt_of_lt_of_le lZ s2
      have bni := bwz
      unfold i8 at bni
      by_cases hne : (n : Int) = ni
      · by_cases hre : r = pz.length
        · have HQ2 := Lib.hid (show leastQ x = (E, C) by rw [← HQ.out]; unfold maQ; rw [if_pos ⟨rfl, rfl⟩, if_pos ⟨hne, hre⟩])
          subst hne
          have HTA := Lib.hid (fun W (h : Below w2.heap.size w2 W) => l03Tables_any w.heap.size b k q m n r wd hi l p c W (HA0.out _ (kTrans HB2.out h)) (HP.out _ (kTrans HT2.out h)) (HG.out _ (kTrans HT2.out h)) (HC.out _ (kTrans HT2.out h)) (Nat.lt_of_lt_of_le zb (kTrans HT2.out h).size) (Nat.lt_of_lt_of_le zk (kTrans HT2.out h).size) (Nat.lt_of_lt_of_le zq (kTrans HT2.out h).size) Hm.out Hn.out Hr.out h6 hr8 F Hf.out N HNN.out)
          obtain ⟨A1, hA1⟩ : ∃ A1, (tabsM (ansL l c F N) r N) = A1 := ⟨_, rfl⟩
          obtain ⟨A2, hA2⟩ : ∃ A2, pickT (tabsL n lz []) pz = A2 := ⟨_, rfl⟩
          have HTZ := Lib.hid (fun W (h : Below w2.heap.size w2 W) => l04Outputs_any n (w.heap.size + 1) bz kz lz pz W (HZ0.out _ (kTrans HB2.out h)) (HNW.out _ (kTrans HT2.out h)) HRR.out.symm A2 hA2)
          have hl1 : A1.length = r := by rw [← hA1]; exact tabsM_length _ _ _
          have hl2 : A2.length = r := by rw [← hA2, hre]; exact pickT_length _ _
          rw [Int.toNat_natCast, hA1, hA2] at HX
          rw [hA1] at HTA
          have HL1 := Lib.hid hl1
          have HL2 := Lib.hid hl2
          clear HQ hA1 hA2 hl1 hl2
          have hre2 : ((r : Int) != (pz.length : Int)) = false := by simp [hre]
          have hre3 : ((r : Int) == (pz.length : Int)) = true := by simp [hre]
          clear hre
          go_upto_region 5 with fail
          clear x0 x1 x2 x3 x4 y0 y1 y2
          go_wp2_with fail
          refine (HTA.out w2 (Below.refl _ _)).mono ?_
          rintro e w5 ⟨v5, rfl, hs5, hb5⟩
          obtain ⟨va5, vc5, rfl⟩ := hs5.form
          obtain ⟨g5, o5, rfl, hu5, hg5, hc5, -⟩ := slUs_some hs5 (by rw [HL1.out]; omega)
          have HU5 := Lib.hid hu5
          have HBB5 := Lib.hid hb5
          clear hs5 hb5 hu5 HTA
          go_wp2_with fail
          refine (HTZ.out w5 HBB5.out).mono ?_
          rintro e w6 ⟨v6, rfl, hs6, hb6⟩
          obtain ⟨va6, vc6, rfl⟩ := hs6.form
          obtain ⟨g6, o6, rfl, hu6, hg6, hc6, -⟩ := slUs_some hs6 (by rw [HL2.out]; omega)
          have HU6 := Lib.hid hu6
          have HU56 := Lib.hid (HU5.out.below hb6 hg5)
          have hg56 := Nat.lt_of_lt_of_le hg5 hb6.size
          have HT6 := Lib.hid (kTrans HT2.out (kTrans HBB5.out hb6))
          rw [HL1.out] at hc5 ⊢
          rw [HL2.out] at hc6 ⊢
          have HRA := Lib.hid (l03Least_any g5 o5 g6 o6 r vc5 vc6 A1 A2 w6 HL1.out HL2.out HU56.out HU6.out hg56 hg6 (by omega) hc5 hc6 x HX.out hx64 E C HQ2.out)
          clear hs6 hb6 hu6 HTZ
          go_wp2_with fail
          refine (HRA.out).mono ?_
          rintro e w7 ⟨rfl, hb7⟩
          go_wp2
          exact bodyPost_ret (v := .tuple #[.int .i64 E, .int .i64 C]) (by simp [results, Tryz.results20, go_sem]) rfl ⟨rfl, kTrans HT6.out hb7⟩
        · obtain ⟨hre1, hre2⟩ := ne_facts hre
          obtain ⟨rfl, rfl⟩ := pair_LQ (show ((0 : Int), (4 : Int)) = (E, C) by rw [← HQ.out]; unfold maQ; rw [if_pos ⟨rfl, rfl⟩, if_neg (fun h => hre h.2)])
          subst hne
          clear HQ HX
          go_wp2
          exact bodyPost_ret (v := .tuple #[.int .i64 0, .int .i64 4]) (by simp [results, Tryz.results20, go_sem]) rfl ⟨rfl, HT2.out⟩
      · obtain ⟨hne1, hne2⟩ := ne_factsI hne
        obtain ⟨rfl, rfl⟩ := pair_LQ (show ((0 : Int), (4 : Int)) = (E, C) by rw [← HQ.out]; unfold maQ; rw [if_pos ⟨rfl, rfl⟩, if_neg (fun h => hne h.1)])
        clear HQ HX
        go_wp2
        exact bodyPost_ret (v := .tuple #[.int .i64 0, .int .i64 4]) (by simp [results, Tryz.results20, go_sem]) rfl ⟨rfl, HT2.out⟩
end Go.Proofs.YthohngkdfhpieaaGreatDoor
