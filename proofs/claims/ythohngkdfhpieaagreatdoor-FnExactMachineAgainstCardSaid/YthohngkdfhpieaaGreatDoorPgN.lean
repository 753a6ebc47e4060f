/- The pushes of a row, as a row of one's own. -/
import Derived.Test.YthohngkdfhpieaaGreatDoorG18
namespace Go.Proofs.YthohngkdfhpieaaGreatDoor
open Go.ChangeShapes Go.WideShapes Go.ChangeAt Go.RowKit Go.Joins Go.Deep
set_option linter.unusedVariables false
set_option linter.unusedSimpArgs false

set_option maxRecDepth 100000 in
set_option maxHeartbeats 16000000 in
theorem pushesN_any  (B k n : Nat) (a0 a2 : Option Addr) (n0 n2 d0 d2 : Nat) (wd hi row : Int) (p : List Po) (t : List Int) (w : World) (hn1 : p.length = n) (hr : t.length = n) (hg : PosAt w k 0 p) (hto : ∀ W, Below w.heap.size w W → ∀ (j : Nat) (hj : j < t.length), Calls Tryz.prog 41 #[.int .i64 j] W fun e w' => e = .returned (.int .i64 t[j]) ∧ W = w') (zk : k < w.heap.size)
    (h6 : n ≤ 6) (hrow : 0 ≤ row ∧ row ≤ 64) (hl : lateAll t = true) (L : List Pu) (hL : pushFrom row p t 0 = L) :
    Calls Tryz.prog 88 #[.agg #[.int .i8 wd, .int .i8 hi, .map (some B), .int .i8 wd, .int .i8 hi, .slice a0 n0 d0, .slice (some ⟨k, 0, none⟩) n n, .slice a2 n2 d2], .int .i64 row, .func (.func 41) #[] #[]] w fun e w' => ∃ v, e = .returned v ∧ w'.ownsRow w.heap.size 140 4 v L.length (flatPu L) ∧ Below w.heap.size w w' := by
  have HG := Lib.hid (fun W (hW : Below w.heap.size w W) => hg.below hW zk)
  have HTO0 := Lib.hid hto
  have Hr := Lib.hid hr
  have Hn1 := Lib.hid hn1
  have HL := Lib.hid hl
  have HF : Hid ([] ++ pushFrom row (p.drop 0) (t.drop 0) 0 = L) := Lib.hid (by simpa using hL)
  obtain ⟨i0, hi0, hz0, hzz1, hzz2⟩ := info_parts info_PuP
  have Hi := Lib.hid hi0
  have Hz0 := Lib.hid hz0
  have Hz1 := Lib.hid hzz1
  have Hz2 := Lib.hid hzz2
  have own0 : Hid ((w.alloc (.cells #[.int .i8 wd, .int .i8 hi, .map (some B), .int .i8 wd, .int .i8 hi, .slice a0 n0 d0, .slice (some ⟨k, 0, none⟩) n n, .slice a2 n2 d2] 89)).ownsRow w.heap.size 140 4 (.slice none 0 0) ([] : List Pu).length (flatPu [])) := Lib.hid nil_ownsP
  have hk0 : Below w.heap.size w (w.alloc (.cells #[.int .i8 wd, .int .i8 hi, .map (some B), .int .i8 wd, .int .i8 hi, .slice a0 n0 d0, .slice (some ⟨k, 0, none⟩) n n, .slice a2 n2 d2] 89)) := by repeat (first | with_reducible exact Below.refl _ _ | (with_reducible refine kSet ?_ ?hB _; case hB => (simp; try omega)) | with_reducible refine kAlloc ?_ _ | with_reducible refine Below.drew ?_ | with_reducible refine kDrewN ?_ _ | with_reducible refine kTrans ?_ (by assumption))
  clear hg hr hn1 hl hL hi0 hz0 hzz1 hzz2 hto
  go_enter Tryz.func88, Tryz.ntmps88
  go_wp2
  go_loopw [7, 8, 9, 14] (fun out _ _ i wr => ∃ (j : Nat) (P : List Pu), j ≤ n ∧ i = .int .i64 j ∧ P.length ≤ j ∧ Hid (P ++ pushFrom row (p.drop j) (t.drop j) j = L) ∧ Hid (wr.ownsRow w.heap.size 140 4 out P.length (flatPu P)) ∧ Below w.heap.size w wr) (fun _ _ _ i _ => n - (intOf i).toNat)
  case atStart => exact ⟨0, [], by omega, rfl, by simp, HF, own0, hk0⟩
  case round =>
    clear HF own0 hk0
    obtain ⟨j, P, hj, rfl, hPl, hf, hown, hbr⟩ := hrel
    obtain ⟨va, vc, rfl⟩ := owns_slice hown.out
    by_cases hlt : j < n
    · have hlk : j < p.length := by rw [Hn1.out]; exact hlt
      have hlt2 : j < t.length := by rw [Hr.out]; exact hlt
      have hpa := (HG.out wr hbr) j hlk
      have hla := lateAll_get HL.out hlt2
      have hd : p.drop j = p[j] :: p.drop (j + 1) := List.drop_eq_getElem_cons hlk
      have hd2 : t.drop j = t[j] :: t.drop (j + 1) := List.drop_eq_getElem_cons hlt2
      have htold : ∀ W, Below w.heap.size w W → Calls Tryz.prog 41 #[.int .i64 j] W fun e w' => e = .returned (.int .i64 t[j]) ∧ W = w' := fun W hW => HTO0.out W hW j hlt2
      generalize p[j] = a at hpa hd
      generalize t[j] = x at hd2 hla htold
      have HTO := Lib.hid htold
      have hq := hf.out
      rw [hd, hd2] at hq
      obtain ⟨a0, a1, a2⟩ := hpa
      simp only [Nat.zero_add] at a0 a1 a2
      have hxw : IntKind.i16.wrap x = x := IntWalk.i16_in _ (by omega)
      have Hblk := Lib.hid (owns_block hown.out)
      have kin : Below wr.heap.size wr (wr.alloc (.cells #[.int .i8 a.x, .int .i8 a.y, .int .i8 a.side] 133)) := kAlloc (Below.refl _ _) _
      have PB := Lib.hid (PoAt.box wr a 133)
      have Tin := kTrans hbr kin
      have hown1 := Lib.hid (owns_below hown.out kin)
      have ha1 : (j : Int) ≤ 64 := by omega
      clear hd hd2 hf htold
      cases hb : bitB row j with
      | false =>
        have hR2 : Hid (P ++ pushFrom row (p.drop (j + 1)) (t.drop (j + 1)) (j + 1) = L) := Lib.hid (by rw [← hq]; simp [pushFrom, hb])
        have HB := Lib.hid hb
        clear hq hb
        go_wp2_with fail
        refine (hasOne_any row j _ hrow.1 (by omega) (by omega)).mono ?_
        rw [HB.out]
        rintro e w1 ⟨rfl, rfl⟩
        go_wp2
        exact ⟨⟨j + 1, P, by omega, by go_num, by omega, hR2, hown1, Tin⟩, by simp [intOf]; omega⟩
      | true =>
        have hR2 : Hid ((P ++ [⟨a.x, a.y, a.side, x⟩]) ++ pushFrom row (p.drop (j + 1)) (t.drop (j + 1)) (j + 1) = L) := Lib.hid (by rw [← hq]; simp [pushFrom, hb])
        have HB := Lib.hid hb
        clear hq hb
        go_wp2_with fail
        refine (hasOne_any row j _ hrow.1 (by omega) (by omega)).mono ?_
        rw [HB.out]
        rintro e w1 ⟨rfl, rfl⟩
        clear a0 a1 a2
        obtain ⟨w1, hw1⟩ : ∃ w1, wr.alloc (.cells #[.int .i8 a.x, .int .i8 a.y, .int .i8 a.side] 133) = w1 := ⟨_, rfl⟩
        have hz : wr.heap.size < w1.heap.size := by rw [← hw1]; simp
        have HW1 := Lib.hid hw1
        rw [hw1] at PB Tin hown1
        go_upto_region 6 with fail
        try rw [HW1.out]
        clear hw1 HW1 kin hown
        have Hblk1 := Lib.hid (owns_block hown1.out)
        have hsz := Tin.size
        obtain ⟨b0, b1, b2⟩ := PB.out
        simp only [Nat.zero_add] at b1 b2
        go_region_held_law (fun w' => w'.cell? ⟨wr.heap.size, 0, none⟩ = some (.int .i8 a.x) ∧ w'.cell? ⟨wr.heap.size, 1, none⟩ = some (.int .i8 a.y) ∧ w'.cell? ⟨wr.heap.size, 2, none⟩ = some (.int .i8 a.side)) (first | exact ⟨b0, b1, b2⟩ | exact ⟨(World.cell?_alloc_lt _ _ _ hz).trans b0, (World.cell?_alloc_lt _ _ _ hz).trans b1, (World.cell?_alloc_lt _ _ _ hz).trans b2⟩ | go_keep)
          (first
          | (go_at_call 41
             refine (HTO.out _ (by repeat (first | with_reducible exact Below.refl _ _ | (with_reducible refine kSet ?_ ?hB _; case hB => (simp; try omega)) | with_reducible refine kAlloc ?_ _ | with_reducible refine Below.drew ?_ | with_reducible refine kDrewN ?_ _ | with_reducible refine kTrans ?_ (by assumption)))).mono ?_
             rintro e v1 ⟨rfl, rfl⟩)
          | (refine step_append_own rfl _ _ 76 rfl w.heap.size 140 i0 _ 4 6 Tryz.underlying76 Hi.out Hz0.out Hz1.out Hz2.out rfl (by decide) (.slice va P.length vc) P.length (flatPu P) rfl (owns_below hown1.out (by repeat (first | with_reducible exact Below.refl _ _ | (with_reducible refine kSet ?_ ?hB _; case hB => (simp; try omega)) | with_reducible refine kAlloc ?_ _ | with_reducible refine Below.drew ?_ | with_reducible refine kDrewN ?_ _ | with_reducible refine kTrans ?_ (by assumption)))) ⟨w1.heap.size, 0, none⟩ 1 1 (Pu.mk a.x a.y a.side x).cells rfl rfl (World.news_of_block (cs := #[.int .i8 a.x, .int .i8 a.y, .int .i8 a.side, .int .i16 x]) (heap_alloc_new w1.drew _)) (Pu_one _) (by unfold maxLen; omega) (by omega) (by simp; omega) ?_
             intro v6 w6 hown6 hgr hnil
             have Hown6 := Lib.hid (show w6.ownsRow w.heap.size 140 4 v6 (P ++ [Pu.mk a.x a.y a.side x]).length (flatPu (P ++ [Pu.mk a.x a.y a.side x])) by rw [flatPu_end, List.length_append]; exact hown6)
             have T6 : Below w.heap.size w w6 := grown_below (v := .slice va P.length vc) (by repeat (first | with_reducible exact Below.refl _ _ | (with_reducible refine kSet ?_ ?hB _; case hB => (simp; try omega)) | with_reducible refine kAlloc ?_ _ | with_reducible refine Below.drew ?_ | with_reducible refine kDrewN ?_ _ | with_reducible refine kTrans ?_ (by assumption))) hgr (by intro q hq; exact (Hblk1.out q hq).1)
             have hb6 : w6.heap[wr.heap.size]? = w1.heap[wr.heap.size]? := (hgr.block wr.heap.size (by simp; omega) (fun e => by have := (Hblk.out _ e.symm).2; omega)).trans (Below.heap_alloc _ _ _ hz)
             have hcb : ∀ j, w6.cell? ⟨wr.heap.size, j, none⟩ = w1.cell? ⟨wr.heap.size, j, none⟩ := fun j => World.cell?_of_block (w := w1) hb6
             have b0 := (hcb 0).trans b0
             have b1 := (hcb 1).trans b1
             have b2 := (hcb 2).trans b2
             clear hown6 hgr hnil))
        go_wp2
        exact ⟨⟨j + 1, _, by omega, by go_num, by simp; omega, hR2, Hown6, T6⟩, by simp [intOf]; omega⟩
    · obtain rfl : j = n := by omega
      have hPL : P = L := by rw [← hf.out, List.drop_of_length_le (by rw [Hn1.out]; omega)]; simp [pushFrom]
      subst hPL
      clear hf
      go_wp2
      go_ret
      exact ⟨_, rfl, hown.out, hbr⟩
set_option maxRecDepth 100000 in
set_option maxHeartbeats 16000000 in
theorem fallsN_any  (B b k q m n r : Nat) (wd hi row : Int) (l : List Pc) (p : List Po) (c : List Cl) (t : List Int) (w : World) (hd : DvAt w B b k q l p c) (hm : l.length = m) (hn1 : p.length = n) (hr0 : c.length = r) (hr : t.length = n) (hto : ∀ W, Below w.heap.size w W → ∀ (j : Nat) (hj : j < t.length), Calls Tryz.prog 41 #[.int .i64 j] W fun e w' => e = .returned (.int .i64 t[j]) ∧ W = w')
    (h6 : n ≤ 6) (hrow : 0 ≤ row ∧ row ≤ 64) (hl : lateAll t = true) (lr : List Fl) (hrun : RowRun wd hi row l p c t lr) :
    Calls Tryz.prog 40 #[.agg #[.int .i8 wd, .int .i8 hi, .map (some B), .int .i8 wd, .int .i8 hi, .slice (some ⟨b, 0, none⟩) m m, .slice (some ⟨k, 0, none⟩) n n, .slice (some ⟨q, 0, none⟩) r r], .int .i64 row, .func (.func 41) #[] #[]] w fun e w' => ∃ g, e = .returned (.slice (some ⟨g, 0, none⟩) m m) ∧ FlsAt w' g 0 lr ∧ w.heap.size ≤ g ∧ g < w'.heap.size ∧ (∀ j, w'.frozen? ⟨g, j, none⟩ = false) ∧ Below w.heap.size w w' := by
  obtain ⟨W, hW⟩ : ∃ W, w.alloc (.cells #[.int .i8 wd, .int .i8 hi, .map (some B), .int .i8 wd, .int .i8 hi, .slice (some ⟨b, 0, none⟩) m m, .slice (some ⟨k, 0, none⟩) n n, .slice (some ⟨q, 0, none⟩) r r] 89) = W := ⟨_, rfl⟩
  have kW : Below w.heap.size w W := by rw [← hW]; exact kAlloc (Below.refl _ _) _
  have bD : W.heap[w.heap.size]? = some (.cells #[.int .i8 wd, .int .i8 hi, .map (some B), .int .i8 wd, .int .i8 hi, .slice (some ⟨b, 0, none⟩) m m, .slice (some ⟨k, 0, none⟩) n n, .slice (some ⟨q, 0, none⟩) r r] 89 (0, 0)) := by rw [← hW]; exact heap_alloc_new _ _
  obtain ⟨L, hL⟩ : ∃ L, pushFrom row p t 0 = L := ⟨_, rfl⟩
  have HP := Lib.hid (fun W2 (h2 : Below w.heap.size w W2) => pushesN_any  B k n (some ⟨b, 0, none⟩) (some ⟨q, 0, none⟩) m r m r wd hi row p t W2 hn1 hr (hd.below h2).p1 (fun W3 h3 => hto W3 (kTrans h2 h3)) (hd.below h2).z1 h6 hrow hl L hL)
  have hok : boardOk wd hi l = true ∧ pushesOk l L = true := by have := hrun.ok; rw [hL] at this; simpa using this.symm
  have hrn : RunsTo true l L lr := by have := hrun.runs; rwa [hL] at this
  have h200 := boardOk_len hok.1
  have hLl : L.length ≤ 20 := pushesOk_len hok.2
  have HRun := Lib.hid (fun W2 (h2 : Below w.heap.size w W2) (pb np pc : Nat) (pa : Option Addr) (e1 : np = 0 ∨ pa = some ⟨pb, 0, none⟩) (e2 : L.length = np) (e3 : PusAt W2 pb 0 L) (e4 : pb < W2.heap.size) => run_any B b 0 m m pb np pc pa e1 wd hi l L W2 hm (hd.below h2).p0 (hd.below h2).z0 (Nat.le_refl _) (hd.below h2).mp (allOk hok.1) (by omega) e2 e3 e4 (pushesOk_plain hok.2) (by omega) (hd.below h2).st)
  have HL := Lib.hid (fun w1 g F (hF : FRow w1 g m F) (hS : Sol (gameL l L) F) => hrn.at_ (gameL_ok (allOk hok.1) (pushesOk_plain hok.2)) hm hF hS)
  have lD := blk_lt bD
  have HZ := Lib.hid (fun W2 (h2 : Below w.heap.size w W2) => (hd.below h2).z0)
  have HW := Lib.hid hW
  have c0 : W.cell? ⟨w.heap.size, 0, none⟩ = some (.int .i8 wd) := cell_of_row _ _ 0 _ _ _ bD
  have c1 : W.cell? ⟨w.heap.size, 1, none⟩ = some (.int .i8 hi) := cell_of_row _ _ 1 _ _ _ bD
  have c2 : W.cell? ⟨w.heap.size, 2, none⟩ = some (.map (some B)) := cell_of_row _ _ 2 _ _ _ bD
  have c3 : W.cell? ⟨w.heap.size, 3, none⟩ = some (.int .i8 wd) := cell_of_row _ _ 3 _ _ _ bD
  have c4 : W.cell? ⟨w.heap.size, 4, none⟩ = some (.int .i8 hi) := cell_of_row _ _ 4 _ _ _ bD
  have c5 : W.cell? ⟨w.heap.size, 5, none⟩ = some (.slice (some ⟨b, 0, none⟩) m m) := cell_of_row _ _ 5 _ _ _ bD
  have c6 : W.cell? ⟨w.heap.size, 6, none⟩ = some (.slice (some ⟨k, 0, none⟩) n n) := cell_of_row _ _ 6 _ _ _ bD
  have c7 : W.cell? ⟨w.heap.size, 7, none⟩ = some (.slice (some ⟨q, 0, none⟩) r r) := cell_of_row _ _ 7 _ _ _ bD
  clear hW bD hd hm hn1 hr0 hr hto hl hrun hok hrn hL
  go_enter Tryz.func40, Tryz.ntmps40
  go_upto_region 1 with fail
  try rw [HW.out]
  go_region_held3 (fun w' => w'.cell? ⟨w.heap.size, 0, none⟩ = some (.int .i8 wd) ∧ w'.cell? ⟨w.heap.size, 1, none⟩ = some (.int .i8 hi) ∧ w'.cell? ⟨w.heap.size, 2, none⟩ = some (.map (some B)) ∧ w'.cell? ⟨w.heap.size, 3, none⟩ = some (.int .i8 wd) ∧ w'.cell? ⟨w.heap.size, 4, none⟩ = some (.int .i8 hi) ∧ w'.cell? ⟨w.heap.size, 5, none⟩ = some (.slice (some ⟨b, 0, none⟩) m m) ∧ w'.cell? ⟨w.heap.size, 6, none⟩ = some (.slice (some ⟨k, 0, none⟩) n n) ∧ w'.cell? ⟨w.heap.size, 7, none⟩ = some (.slice (some ⟨q, 0, none⟩) r r)) (go_keep)
    (first
    | (go_at_call 89
       obtain ⟨pb, ePu, eLt, ePa⟩ := owns_pushes (show _ from Hu.out) (HZ.out v1 (kTrans kW (kTrans (by first | exact Below.refl _ _ | exact Below.drew (Below.refl _ _)) b1)))
       have kv1 := kTrans kW (kTrans (show Below W.heap.size W _ by first | exact Below.refl _ _ | exact Below.drew (Below.refl _ _)) b1)
       refine (HRun.out _ kv1 pb L.length uc ua ePa rfl ePu eLt).mono ?_
       rintro e v2 ⟨g, F, rfl, hF, hS, _, hg, b2⟩
       have Hfl := Lib.hid (HL.out v2 g F hF hS)
       have Hlt := Lib.hid hF.lt
       have Hfz := Lib.hid hF.fz
       have kv2 := kTrans kv1 b2
       have c0 := (b2.cell (p := ⟨w.heap.size, 0, none⟩) (Nat.lt_of_lt_of_le lD b1.size)).trans c0
       have c1 := (b2.cell (p := ⟨w.heap.size, 1, none⟩) (Nat.lt_of_lt_of_le lD b1.size)).trans c1
       have c2 := (b2.cell (p := ⟨w.heap.size, 2, none⟩) (Nat.lt_of_lt_of_le lD b1.size)).trans c2
       have c3 := (b2.cell (p := ⟨w.heap.size, 3, none⟩) (Nat.lt_of_lt_of_le lD b1.size)).trans c3
       have c4 := (b2.cell (p := ⟨w.heap.size, 4, none⟩) (Nat.lt_of_lt_of_le lD b1.size)).trans c4
       have c5 := (b2.cell (p := ⟨w.heap.size, 5, none⟩) (Nat.lt_of_lt_of_le lD b1.size)).trans c5
       have c6 := (b2.cell (p := ⟨w.heap.size, 6, none⟩) (Nat.lt_of_lt_of_le lD b1.size)).trans c6
       have c7 := (b2.cell (p := ⟨w.heap.size, 7, none⟩) (Nat.lt_of_lt_of_le lD b1.size)).trans c7
       clear hF hS)
    | (go_at_call 88
       refine (HP.out _ (kTrans kW (by first | exact Below.refl _ _ | exact Below.drew (Below.refl _ _)))).mono ?_
       rintro e v1 ⟨u, rfl, hu, b1⟩
       obtain ⟨ua, uc, rfl⟩ := owns_slice hu
       have Hu := Lib.hid hu
       have c0 := (b1.cell (p := ⟨w.heap.size, 0, none⟩) (lD)).trans c0
       have c1 := (b1.cell (p := ⟨w.heap.size, 1, none⟩) (lD)).trans c1
       have c2 := (b1.cell (p := ⟨w.heap.size, 2, none⟩) (lD)).trans c2
       have c3 := (b1.cell (p := ⟨w.heap.size, 3, none⟩) (lD)).trans c3
       have c4 := (b1.cell (p := ⟨w.heap.size, 4, none⟩) (lD)).trans c4
       have c5 := (b1.cell (p := ⟨w.heap.size, 5, none⟩) (lD)).trans c5
       have c6 := (b1.cell (p := ⟨w.heap.size, 6, none⟩) (lD)).trans c6
       have c7 := (b1.cell (p := ⟨w.heap.size, 7, none⟩) (lD)).trans c7
       clear hu))
  go_wp2
  go_ret
  exact ⟨g, rfl, Hfl.out, by have := kv1.size; omega, Hlt.out, Hfz.out, kv2⟩
end Go.Proofs.YthohngkdfhpieaaGreatDoor
