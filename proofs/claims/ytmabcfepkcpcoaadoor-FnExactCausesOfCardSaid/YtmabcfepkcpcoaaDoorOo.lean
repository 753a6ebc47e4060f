/- PushOne, CountFrom: the program and the model. -/
import Derived.Test.YtmabcfepkcpcoaaDoorOn
namespace Go.Proofs.YtmabcfepkcpcoaaDoor
open Go.ChangeShapes Go.WideShapes Go.ChangeAt Go.RowKit
set_option linter.unusedVariables false
set_option linter.unusedSimpArgs false

theorem falls_same1 {lb : List Pc} {l : List Pu} {lr : List Fl} {R : Bool} (h : RunsTo R lb l lr) : idxs (fun f => !decide (f = stay)) lr 0 = idxs fallsB lr 0 := falls_same h
set_option maxRecDepth 100000 in
set_option maxHeartbeats 4000000 in
theorem implPushOne_any (b m cap : Nat) (wd hi i s : Int) (lb : List Pc) (w : World) (hm : lb.length = m) (hq : PcsAt w b 0 lb) (hbb : b < w.heap.size) (hcap : m ≤ cap) (h8 : All8 lb) (hmm : m ≤ 1048576)
    (R : Bool) (hR : R = boardOk wd hi lb) (hst : StayAt w) (lr : List Fl) (hlr : RunsTo (decide (oneC R m i s = 0)) lb [oneP lb i s] lr) (C : Int) (hC : oneC R m i s = C) :
    Calls Tryd.prog 47 #[.agg #[.int .i8 wd, .int .i8 hi, .slice (some ⟨b, 0, none⟩) m cap], .int .i64 i, .int .i64 s] w (FlPost lr C w) := by
  obtain ⟨W, hW⟩ : ∃ W, ((w.alloc (.cells #[.int .i8 wd, .int .i8 hi, .slice (some ⟨b, 0, none⟩) m cap] 34)).alloc (.cells #[.int .i64 i] 2)).alloc (.cells #[.int .i64 s] 2) = W := ⟨_, rfl⟩
  have bW : Below w.heap.size w W := by rw [← hW]; exact kAlloc (kAlloc (kAlloc (Below.refl _ _) _) _) _
  have g0 : BdAt W w.heap.size 0 wd hi (.slice (some ⟨b, 0, none⟩) m cap) := by
    rw [← hW]; exact (BdAt.box w wd hi (.slice (some ⟨b, 0, none⟩) m cap) 34).below (kAlloc (kAlloc (Below.refl _ _) _) _) (by simp)
  have g1 : W.cell? ⟨w.heap.size + 1, 0, none⟩ = some (.int .i64 i) := by
    rw [← hW]; exact cell_of_row _ _ 0 _ _ _ (blk_below (heap_two w (.cells #[.int .i8 wd, .int .i8 hi, .slice (some ⟨b, 0, none⟩) m cap] 34) (.cells #[.int .i64 i] 2)) (kAlloc (Below.refl _ _) _))
  have g2 : W.cell? ⟨w.heap.size + 1 + 1, 0, none⟩ = some (.int .i64 s) := by
    rw [← hW]
    have h := heap_alloc_new ((w.alloc (.cells #[.int .i8 wd, .int .i8 hi, .slice (some ⟨b, 0, none⟩) m cap] 34)).alloc (.cells #[.int .i64 i] 2)) (.cells #[.int .i64 s] 2)
    simp only [World.size_alloc] at h
    exact cell_of_row _ _ 0 _ _ _ h
  have hbad : (R = true ∧ ¬ (0 ≤ i ∧ i < m)) → C = 2 ∧ lr = [] := by
    rintro ⟨h1, h2⟩
    have : oneC R m i s = 2 := by unfold oneC; rw [if_pos h1, if_neg (fun h => h2 h.1)]
    exact ⟨hC.symm.trans this, hlr.1 (by rw [this]; rfl)⟩
  have HX := Lib.hid (refPush_any w.heap.size (w.heap.size + 1) (w.heap.size + 1 + 1) _ i lr C W hbad (fun w1 h => pushOne1_any w.heap.size (w.heap.size + 1) (w.heap.size + 1 + 1) b m cap wd hi i s lb w1 hm (g0.below h g0.lt) ((h.cell (p := ⟨w.heap.size + 1, 0, none⟩) (World.block_lt_of_cell? W _ g1)).trans g1) ((h.cell (p := ⟨w.heap.size + 1 + 1, 0, none⟩) (World.block_lt_of_cell? W _ g2)).trans g2)
    ((hq.below bW hbb).below h (Nat.lt_of_lt_of_le hbb bW.size)) (Nat.lt_of_lt_of_le hbb (Nat.le_trans bW.size h.size)) hcap h8 hmm R hR ((hst.below bW).below h) lr hlr C hC))
  have HW := Lib.hid hW
  clear hm hq h8 hR hst hlr hC hbad g0 g1 g2 hW
  go_enter Tryd.func47, Tryd.ntmps47
  go_upto_region 1 with fail
  rw [HW.out]
  go_wp2_with fail
  refine HX.out.mono ?_
  rintro e w1 ⟨v, rfl, hv, hb1⟩
  have T := kTrans bW hb1
  obtain ⟨va, vc, rfl⟩ := hv.form
  have Hv := Lib.hid (hv.mono bW.size (Nat.le_refl _))
  clear hv HX hb1
  go_wp2
  exact bodyPost_ret (v := .tuple #[.slice va lr.length vc, .int .i64 C]) (by simp [results, Tryd.results47, go_sem]) rfl ⟨_, rfl, Hv.out, T⟩
set_option maxRecDepth 100000 in
set_option maxHeartbeats 2000000 in
theorem l02One_any (bb bo b o m cap : Nat) (wd hi i s : Int) (lb : List Pc) (w : World) (hm : lb.length = m) (hbd : BdAt w bb bo wd hi (.slice (some ⟨b, o, none⟩) m cap)) (hq : PcsAt w b o lb) (hbb : b < w.heap.size) (hcap : m ≤ cap) (h8 : All8 lb) (hw8 : i8 wd) (hh8 : i8 hi) (hmm : m ≤ 1048576)
    (R : Bool) (hR : R = boardOk wd hi lb) (C : Int) (hC : oneC R m i s = C) :
    Calls Tryd.prog 82 #[.pointer (some ⟨bb, bo, none⟩), .int .i64 i, .int .i64 s] w fun e w' => e = .returned (.int .i64 C) ∧ Below w.heap.size w w' := by
  have hbl := hbd.lt
  have HX := Lib.hid (l01Ok_any bb bo b o m cap wd hi lb _ hm hbd hq hbb hcap h8 hw8 hh8 hmm R hR)
  obtain ⟨q0, q1, q2⟩ := hbd
  clear hm hq hR h8
  cases R with
  | false =>
    obtain rfl : (1 : Int) = C := hC
    go_enter Tryd.func82, Tryd.ntmps82
    go_wp2_with fail
    refine HX.out.mono ?_
    rintro e w1 ⟨rfl, hb1⟩
    go_wp2
    go_ret
    exact ⟨rfl, by repeat (first | with_reducible exact Below.refl _ _ | (with_reducible refine kSet ?_ ?hB _; case hB => (simp; try omega)) | with_reducible refine kAlloc ?_ _ | with_reducible refine Below.drew ?_ | with_reducible refine kDrewN ?_ _ | with_reducible refine kTrans ?_ (by assumption))⟩
  | true =>
    have HC := Lib.hid hC
    clear hC
    obtain ⟨Rs, hRs⟩ : ∃ Rs, Rs = decide (0 ≤ s ∧ s ≤ 3) := ⟨_, rfl⟩
    go_enter Tryd.func82, Tryd.ntmps82
    go_wp2_with fail
    refine HX.out.mono ?_
    rintro e w1 ⟨rfl, hb1⟩
    have d2 := (hb1.cell (p := ⟨bb, bo + 2, none⟩) hbl).trans q2
    clear HX
    by_cases hin : 0 ≤ i ∧ i < m
    · go_wp2_with fail
      refine (l00In_yes _ _ _ _ (by omega) (by omega)).mono ?_
      rintro e w2 ⟨rfl, rfl⟩
      go_wp2_with fail
      refine (l01Side_any s _ Rs hRs).mono ?_
      rintro e w3 ⟨rfl, rfl⟩
      cases Rs with
      | true =>
        have hyes : 0 ≤ s ∧ s ≤ 3 := of_decide_eq_true hRs.symm
        obtain rfl : (0 : Int) = C := by rw [← HC.out]; unfold oneC; rw [if_pos rfl, if_pos ⟨hin, hyes⟩]
        clear HC hRs
        go_wp2
        go_ret
        exact ⟨rfl, hb1⟩
      | false =>
        have hno : ¬ (0 ≤ s ∧ s ≤ 3) := of_decide_eq_false hRs.symm
        obtain rfl : (2 : Int) = C := by rw [← HC.out]; unfold oneC; rw [if_pos rfl, if_neg (fun h => hno h.2)]
        clear HC hRs hno
        go_wp2
        go_ret
        exact ⟨rfl, hb1⟩
    · obtain rfl : (2 : Int) = C := by rw [← HC.out]; unfold oneC; rw [if_pos rfl, if_neg (fun h => hin h.1)]
      clear HC hRs
      go_wp2_with fail
      refine (l00In_no _ _ _ _ (by omega)).mono ?_
      rintro e w2 ⟨rfl, rfl⟩
      go_wp2
      go_ret
      exact ⟨rfl, hb1⟩
set_option maxRecDepth 100000 in
set_option maxHeartbeats 2000000 in
theorem l02From_any (bb bo b m cap : Nat) (wd hi i s : Int) (lb : List Pc) (w : World) (hm : lb.length = m) (hbd : BdAt w bb bo wd hi (.slice (some ⟨b, 0, none⟩) m cap)) (hq : PcsAt w b 0 lb) (hbb : b < w.heap.size) (hcap : m ≤ cap) (h8 : All8 lb) (hmm : m ≤ 1048576)
    (hR : true = boardOk wd hi lb) (hin : 0 ≤ i ∧ i < m) (hs : 0 ≤ s ∧ s ≤ 3) (lr : List Fl) (hlr : RunsTo true lb [oneP lb i s] lr) :
    Calls Tryd.prog 83 #[.pointer (some ⟨bb, bo, none⟩), .int .i64 i, .int .i64 s] w fun e w' => ∃ v, e = .returned v ∧ SlWFl w.heap.size w'.heap.size w' lr v ∧ Below w.heap.size w w' := by
  obtain ⟨k, rfl⟩ : ∃ k : Nat, i = k := ⟨i.toNat, by omega⟩
  have hkm : k < m := by omega
  have hkl : k < lb.length := by omega
  have hgd : lb.getD ((k : Int)).toNat pc0 = lb[k] := by rw [Int.toNat_natCast]; exact getD_pc hkl
  obtain ⟨a0, a1, a2, a3, a4⟩ := hq k hkl
  have h8p := h8 _ (List.getElem_mem hkl)
  have hpo : oneP lb k s = ⟨lb[k].x, lb[k].y, s, 0⟩ := by unfold oneP; rw [hgd]
  have bA : Below w.heap.size w (w.alloc (.cells #[.int .i8 lb[k].x, .int .i8 lb[k].y, .int .i8 s, .int .i16 0] 75)) := kAlloc (Below.refl _ _) _
  have hnew := heap_alloc_new w (.cells #[.int .i8 lb[k].x, .int .i8 lb[k].y, .int .i8 s, .int .i16 0] 75)
  have hpu : PusAt (w.alloc (.cells #[.int .i8 lb[k].x, .int .i8 lb[k].y, .int .i8 s, .int .i16 0] 75)) w.heap.size 0 [oneP lb k s] := by
    intro j hj
    obtain rfl : j = 0 := by simpa using hj
    simp only [List.getElem_cons_zero, hpo]
    exact ⟨cell_of_row _ _ 0 _ _ _ hnew, cell_of_row _ _ 1 _ _ _ hnew, cell_of_row _ _ 2 _ _ _ hnew, cell_of_row _ _ 3 _ _ _ hnew⟩
  have HX := Lib.hid (l02Run_to bb bo b 0 m cap w.heap.size 1 wd hi lb [oneP lb k s] _ hm (hbd.below bA hbd.lt) (hq.below bA hbb) (Nat.lt_of_lt_of_le hbb bA.size) hcap rfl hpu (blk_lt hnew) (by rw [← hR, one_ok hR.symm (by omega) hs]; rfl) lr hlr)
  obtain ⟨q0, q1, q2⟩ := hbd
  have wss : IntKind.i8.wrap s = s := IntWalk.i8_in _ (by omega)
  have hki : (k : Int) < (m : Int) := by omega
  generalize lb[k] = p at a0 a1 a2 a3 a4 HX bA
  simp only [Nat.zero_add] at a0 a1 a2 a3 a4
  clear hm hq hR h8 hlr hpo hgd hpu hnew hkl h8p
  go_enter Tryd.func83, Tryd.ntmps83
  go_wp2_with fail
  refine HX.out.mono ?_
  rintro e w1 ⟨v, rfl, hv, hb1⟩
  have T := kTrans bA hb1
  obtain ⟨va, vc, rfl⟩ := hv.form
  have Hv := Lib.hid (hv.mono bA.size (Nat.le_refl _))
  clear hv HX hb1
  go_wp2
  go_ret
  exact ⟨_, rfl, Hv.out, T⟩
set_option maxRecDepth 100000 in
set_option maxHeartbeats 2000000 in
theorem specPushOne_any (b m cap : Nat) (wd hi i s : Int) (lb : List Pc) (w : World) (hm : lb.length = m) (hq : PcsAt w b 0 lb) (hbb : b < w.heap.size) (hcap : m ≤ cap) (h8 : All8 lb) (hw8 : i8 wd) (hh8 : i8 hi) (hmm : m ≤ 1048576)
    (R : Bool) (hR : R = boardOk wd hi lb) (lr : List Fl) (hlr : RunsTo (decide (oneC R m i s = 0)) lb [oneP lb i s] lr) (C : Int) (hC : oneC R m i s = C) :
    Calls Tryd.prog 46 #[.agg #[.int .i8 wd, .int .i8 hi, .slice (some ⟨b, 0, none⟩) m cap], .int .i64 i, .int .i64 s] w (FlPost lr C w) := by
  have hk : Below w.heap.size w (w.alloc (.cells #[.int .i8 wd, .int .i8 hi, .slice (some ⟨b, 0, none⟩) m cap] 34)) := by repeat (first | with_reducible exact Below.refl _ _ | (with_reducible refine kSet ?_ ?hB _; case hB => (simp; try omega)) | with_reducible refine kAlloc ?_ _ | with_reducible refine Below.drew ?_ | with_reducible refine kDrewN ?_ _ | with_reducible refine kTrans ?_ (by assumption))
  have hbx := BdAt.box w wd hi (.slice (some ⟨b, 0, none⟩) m cap) 34
  have HX := Lib.hid (l02One_any w.heap.size 0 b 0 m cap wd hi i s lb _ hm hbx (hq.below hk hbb) (Nat.lt_of_lt_of_le hbb hk.size) hcap h8 hw8 hh8 hmm R hR C hC)
  by_cases h0 : C = 0
  · subst h0
    obtain ⟨rfl, h2, h3⟩ := oneC_zero hC
    have HY := Lib.hid (fun w2 (h : Below (w.alloc (.cells #[.int .i8 wd, .int .i8 hi, .slice (some ⟨b, 0, none⟩) m cap] 34)).heap.size (w.alloc (.cells #[.int .i8 wd, .int .i8 hi, .slice (some ⟨b, 0, none⟩) m cap] 34)) w2) =>
      l02From_any w.heap.size 0 b m cap wd hi i s lb w2 hm (hbx.below h hbx.lt) ((hq.below hk hbb).below h (Nat.lt_of_lt_of_le hbb hk.size)) (Nat.lt_of_lt_of_le hbb (Nat.le_trans hk.size h.size)) hcap h8 hmm hR h2 h3 lr (by rw [hC] at hlr; exact hlr))
    clear hm hq hR h8 hlr hC hbx h2 h3
    go_enter Tryd.func46, Tryd.ntmps46
    go_wp2_with fail
    refine HX.out.mono ?_
    rintro e w1 ⟨rfl, hb1⟩
    have T1 := kTrans hk hb1
    have H2 := Lib.hid (HY.out w1 hb1)
    clear HX HY hb1
    go_wp2_with fail
    refine H2.out.mono ?_
    rintro e w2 ⟨v, rfl, hv, hb2⟩
    have T := kTrans T1 hb2
    obtain ⟨va, vc, rfl⟩ := hv.form
    have Hv := Lib.hid (hv.mono T1.size (Nat.le_refl _))
    clear hv H2 hb2
    go_wp2
    exact bodyPost_ret (v := .tuple #[.slice va lr.length vc, .int .i64 0]) (by simp [results, Tryd.results46, go_sem]) rfl ⟨_, rfl, Hv.out, T⟩
  · obtain rfl : lr = [] := hlr.1 (by rw [hC]; exact decide_eq_false h0)
    have hc0 : (C == 0) = false := by simpa using h0
    have hc1 : (C != 0) = true := by simpa using h0
    clear hm hq hR h8 hlr hC hbx
    go_enter Tryd.func46, Tryd.ntmps46
    go_wp2_with fail
    refine HX.out.mono ?_
    rintro e w1 ⟨rfl, hb1⟩
    clear HX
    go_wp2
    exact bodyPost_ret (v := .tuple #[.slice (some ⟨w1.heap.size, 0, none⟩) 0 0, .int .i64 C]) (by simp [results, Tryd.results46, go_sem]) rfl ⟨_, rfl, .empty _ _ rfl, by repeat (first | with_reducible exact Below.refl _ _ | (with_reducible refine kSet ?_ ?hB _; case hB => (simp; try omega)) | with_reducible refine kAlloc ?_ _ | with_reducible refine Below.drew ?_ | with_reducible refine kDrewN ?_ _ | with_reducible refine kTrans ?_ (by assumption))⟩
set_option maxRecDepth 100000 in
set_option maxHeartbeats 2000000 in
theorem l02Count_mk (g o n cap : Nat) (lr : List Fl) (w : World) (hn : lr.length = n) (hc : FlsAt w g o lr) (hg : g < w.heap.size) (hle : n ≤ cap) (hmax : n ≤ 200) (T : Int) (hT : ((idxs fallsB lr 0).length : Int) = T) :
    Calls Tryd.prog 89 #[.slice (some ⟨g, o, none⟩) n cap] w fun e w' => e = .returned (.int .i64 T) ∧ Below w.heap.size w w' := by
  have Hn := Lib.hid hn
  have HT : Hid ((0 : Int) + ((idxs fallsB (lr.drop 0) ((0 : Nat) : Int)).length : Int) = T) := Lib.hid (by rw [List.drop_zero, Int.zero_add]; exact hT)
  clear hn hT
  go_enter Tryd.func89, Tryd.ntmps89
  go_wp2
  go_loopw [3, 4] (fun v i wr => ∃ (k : Nat) (a : Int), k ≤ n ∧ i = .int .i64 k ∧ v = .int .i64 a ∧ 0 ≤ a ∧ a ≤ k ∧ Hid (a + ((idxs fallsB (lr.drop k) k).length : Int) = T) ∧ Below w.heap.size w wr) (fun _ i _ => n - (intOf i).toNat)
  case atStart => exact ⟨0, 0, by omega, rfl, rfl, by omega, by omega, HT, Below.refl _ _⟩
  case round =>
    clear HT
    obtain ⟨k, a, hk, rfl, rfl, ha0, hak, hf, hbr⟩ := hrel
    by_cases hlt : k < n
    · have hlk : k < lr.length := by rw [Hn.out]; exact hlt
      obtain ⟨f0, f1, f2⟩ := (hc.below hbr hg) k hlk
      have hd : lr.drop k = lr[k] :: lr.drop (k + 1) := List.drop_eq_getElem_cons hlk
      generalize lr[k] = f at f0 f1 f2 hd
      have hq := hf.out
      rw [hd] at hq
      clear hc hf hd
      by_cases h0 : 0 ≤ f.tick
      · have hq2 : Hid ((a + 1) + ((idxs fallsB (lr.drop (k + 1)) ((k + 1 : Nat) : Int)).length : Int) = T) := Lib.hid (by
          rw [← hq, idxs_yes (f := f) (by simp [fallsB, h0]), show ((k + 1 : Nat) : Int) = (k : Int) + 1 by omega, List.length_cons]; push_cast; omega)
        clear hq
        go_wp2
        exact ⟨⟨k + 1, a + 1, by omega, by go_num, by first | rfl | (congr 1; omega), by omega, by omega, hq2, hbr⟩, by simp [intOf]; omega⟩
      · have hq2 : Hid (a + ((idxs fallsB (lr.drop (k + 1)) ((k + 1 : Nat) : Int)).length : Int) = T) := Lib.hid (by
          rw [← hq, idxs_no (f := f) (by simp [fallsB]; omega), show ((k + 1 : Nat) : Int) = (k : Int) + 1 by omega])
        clear hq
        go_wp2
        exact ⟨⟨k + 1, a, by omega, by go_num, rfl, by omega, by omega, hq2, hbr⟩, by simp [intOf]; omega⟩
    · have hPL : a = T := by have := hf.out; rw [List.drop_of_length_le (by rw [Hn.out]; omega)] at this; simpa [idxs] using this
      subst hPL
      clear hf hc
      go_wp2
      go_ret
      exact ⟨rfl, hbr⟩
theorem l02Count_any (v : Value) (lr : List Fl) (lo hi : Nat) (w : World) (hs : SlWFl lo hi w lr v) (hmax : lr.length ≤ 200) (T : Int) (hT : ((idxs fallsB lr 0).length : Int) = T) :
    Calls Tryd.prog 89 #[v] w fun e w' => e = .returned (.int .i64 T) ∧ Below w.heap.size w w' := by
  cases hs with
  | mk g o c hc h1 h2 hg hf hle => exact l02Count_mk g o _ c lr w rfl hc hg hle hmax T hT
  | empty a c h =>
    subst h
    obtain rfl : (0 : Int) = T := hT
    go_enter Tryd.func89, Tryd.ntmps89
    go_wp2
    refine wp_loop_rounds 1 ?_
    rw [rounds_succ]
    go_wp2
    go_ret
    exact ⟨rfl, Below.refl _ _⟩
set_option maxRecDepth 100000 in
set_option maxHeartbeats 2000000 in
theorem specCountFrom_any (b m cap : Nat) (wd hi i s : Int) (lb : List Pc) (w : World) (hm : lb.length = m) (hq : PcsAt w b 0 lb) (hbb : b < w.heap.size) (hcap : m ≤ cap) (h8 : All8 lb) (hw8 : i8 wd) (hh8 : i8 hi) (hmm : m ≤ 1048576)
    (R : Bool) (hR : R = boardOk wd hi lb) (lr : List Fl) (hlr : RunsTo (decide (oneC R m i s = 0)) lb [oneP lb i s] lr) (hlen : lr.length ≤ 200) (C : Int) (hC : oneC R m i s = C) (T : Int) (hT : ((idxs fallsB lr 0).length : Int) = T) :
    Calls Tryd.prog 48 #[.agg #[.int .i8 wd, .int .i8 hi, .slice (some ⟨b, 0, none⟩) m cap], .int .i64 i, .int .i64 s] w fun e w' => e = .returned (.tuple #[.int .i64 T, .int .i64 C]) ∧ Below w.heap.size w w' := by
  have hk : Below w.heap.size w (w.alloc (.cells #[.int .i8 wd, .int .i8 hi, .slice (some ⟨b, 0, none⟩) m cap] 34)) := by repeat (first | with_reducible exact Below.refl _ _ | (with_reducible refine kSet ?_ ?hB _; case hB => (simp; try omega)) | with_reducible refine kAlloc ?_ _ | with_reducible refine Below.drew ?_ | with_reducible refine kDrewN ?_ _ | with_reducible refine kTrans ?_ (by assumption))
  have hbx := BdAt.box w wd hi (.slice (some ⟨b, 0, none⟩) m cap) 34
  have HX := Lib.hid (l02One_any w.heap.size 0 b 0 m cap wd hi i s lb _ hm hbx (hq.below hk hbb) (Nat.lt_of_lt_of_le hbb hk.size) hcap h8 hw8 hh8 hmm R hR C hC)
  by_cases h0 : C = 0
  · subst h0
    obtain ⟨rfl, h2, h3⟩ := oneC_zero hC
    have HY := Lib.hid (fun w2 (h : Below (w.alloc (.cells #[.int .i8 wd, .int .i8 hi, .slice (some ⟨b, 0, none⟩) m cap] 34)).heap.size (w.alloc (.cells #[.int .i8 wd, .int .i8 hi, .slice (some ⟨b, 0, none⟩) m cap] 34)) w2) =>
      l02From_any w.heap.size 0 b m cap wd hi i s lb w2 hm (hbx.below h hbx.lt) ((hq.below hk hbb).below h (Nat.lt_of_lt_of_le hbb hk.size)) (Nat.lt_of_lt_of_le hbb (Nat.le_trans hk.size h.size)) hcap h8 hmm hR h2 h3 lr (by rw [hC] at hlr; exact hlr))
    have HT := Lib.hid hT
    clear hm hq hR h8 hlr hC hbx h2 h3 hT
    go_enter Tryd.func48, Tryd.ntmps48
    go_wp2_with fail
    refine HX.out.mono ?_
    rintro e w1 ⟨rfl, hb1⟩
    have T1 := kTrans hk hb1
    have H2 := Lib.hid (HY.out w1 hb1)
    clear HX HY hb1
    go_wp2_with fail
    refine H2.out.mono ?_
    rintro e w2 ⟨v, rfl, hv, hb2⟩
    have T2 := kTrans T1 hb2
    obtain ⟨va, vc, rfl⟩ := hv.form
    have Hv := Lib.hid hv
    clear hv H2 hb2
    go_wp2_with fail
    refine (l02Count_any _ lr _ _ w2 Hv.out hlen T HT.out).mono ?_
    rintro e w3 ⟨rfl, hb3⟩
    have T3 := kTrans T2 hb3
    clear Hv hb3
    go_wp2
    exact bodyPost_ret (v := .tuple #[.int .i64 T, .int .i64 0]) (by simp [results, Tryd.results48, go_sem]) rfl ⟨rfl, T3⟩
  · obtain rfl : lr = [] := hlr.1 (by rw [hC]; exact decide_eq_false h0)
    obtain rfl : (0 : Int) = T := hT
    have hc0 : (C == 0) = false := by simpa using h0
    have hc1 : (C != 0) = true := by simpa using h0
    clear hm hq hR h8 hlr hC hbx
    go_enter Tryd.func48, Tryd.ntmps48
    go_wp2_with fail
    refine HX.out.mono ?_
    rintro e w1 ⟨rfl, hb1⟩
    clear HX
    go_wp2
    exact bodyPost_ret (v := .tuple #[.int .i64 0, .int .i64 C]) (by simp [results, Tryd.results48, go_sem]) rfl ⟨rfl, by repeat (first | with_reducible exact Below.refl _ _ | (with_reducible refine kSet ?_ ?hB _; case hB => (simp; try omega)) | with_reducible refine kAlloc ?_ _ | with_reducible refine Below.drew ?_ | with_reducible refine kDrewN ?_ _ | with_reducible refine kTrans ?_ (by assumption))⟩
set_option maxRecDepth 100000 in
set_option maxHeartbeats 2000000 in
theorem implCountFrom_any (b m cap : Nat) (wd hi i s : Int) (lb : List Pc) (w : World) (hm : lb.length = m) (hq : PcsAt w b 0 lb) (hbb : b < w.heap.size) (hcap : m ≤ cap) (h8 : All8 lb) (hmm : m ≤ 1048576)
    (R : Bool) (hR : R = boardOk wd hi lb) (hst : StayAt w) (lr : List Fl) (hlr : RunsTo (decide (oneC R m i s = 0)) lb [oneP lb i s] lr) (hlen : lr.length ≤ 200) (C : Int) (hC : oneC R m i s = C) (T : Int) (hT : ((idxs fallsB lr 0).length : Int) = T) :
    Calls Tryd.prog 49 #[.agg #[.int .i8 wd, .int .i8 hi, .slice (some ⟨b, 0, none⟩) m cap], .int .i64 i, .int .i64 s] w fun e w' => e = .returned (.tuple #[.int .i64 T, .int .i64 C]) ∧ Below w.heap.size w w' := by
  have hk : Below w.heap.size w (w.alloc (.cells #[.int .i8 wd, .int .i8 hi, .slice (some ⟨b, 0, none⟩) m cap] 34)) := by repeat (first | with_reducible exact Below.refl _ _ | (with_reducible refine kSet ?_ ?hB _; case hB => (simp; try omega)) | with_reducible refine kAlloc ?_ _ | with_reducible refine Below.drew ?_ | with_reducible refine kDrewN ?_ _ | with_reducible refine kTrans ?_ (by assumption))
  have H1 := Lib.hid (implPushOne_any b m cap wd hi i s lb _ hm (hq.below hk hbb) (Nat.lt_of_lt_of_le hbb hk.size) hcap h8 hmm R hR (hst.below hk) lr hlr C hC)
  have HS := Lib.hid (fun w1 (h : Below w.heap.size w w1) => hst.below h)
  have HL := Lib.hid (falls_same1 hlr)
  obtain ⟨L, hL⟩ : ∃ L, idxs fallsB lr 0 = L := ⟨_, rfl⟩
  have HL2 := Lib.hid (HL.out.trans hL)
  have hLT : (L.length : Int) = T := by rw [← hL]; exact hT
  have HLT := Lib.hid hLT
  have hLl : L.length ≤ 200 := by rw [← hL]; exact Nat.le_trans (idxs_length _ _ _) hlen
  clear hm hq hR h8 hst hlr hC HL hL hT hLT
  go_enter Tryd.func49, Tryd.ntmps49
  go_wp2_with fail
  refine H1.out.mono ?_
  rintro e w1 ⟨v, rfl, hv, hb1⟩
  have hb01 := kTrans hk hb1
  obtain ⟨a, c, rfl⟩ := hv.form
  have Hv1 := Lib.hid hv
  clear hv H1 hb1
  go_wp2_with fail
  refine (indices_falling _ lr _ _ w1 Hv1.out hlen (HS.out w1 hb01) L HL2.out).mono ?_
  rintro e w2 ⟨v2, rfl, hv2, hb2⟩
  have T2 := kTrans hb01 hb2
  obtain ⟨a2, c2, rfl⟩ := hv2.form
  clear hv2 Hv1 HS hb2
  go_wp2
  exact bodyPost_ret (v := .tuple #[.int .i64 T, .int .i64 C]) (by rw [← HLT.out]; simp [results, Tryd.results49, go_sem]) rfl ⟨rfl, T2⟩
end Go.Proofs.YtmabcfepkcpcoaaDoor
