/- PushOne, CountFrom: one piece is pushed. -/
import Derived.Test.YtmabcfepkcpcoaaDoorRf
import Derived.Test.YtmabcfepkcpcoaaDoorIx
namespace Go.Proofs.YtmabcfepkcpcoaaDoor
open Go.ChangeShapes Go.WideShapes Go.ChangeAt Go.RowKit
set_option linter.unusedVariables false
set_option linter.unusedSimpArgs false

theorem findFrom_mem {p : Pc} : ∀ {l : List Pc} {j : Int}, 0 ≤ j → p ∈ l → 0 ≤ findFrom p.x p.y l j
  | q :: l, j, hj, h => by
    unfold findFrom
    split
    · exact hj
    · rename_i hne
      rcases List.mem_cons.1 h with rfl | h
      · exact absurd ⟨rfl, rfl⟩ hne
      · exact findFrom_mem (by omega) h
def oneC (R : Bool) (m : Nat) (i s : Int) : Int := if R = true then (if (0 ≤ i ∧ i < m) ∧ 0 ≤ s ∧ s ≤ 3 then 0 else 2) else 1
def oneP (lb : List Pc) (i s : Int) : Pu := ⟨(lb.getD i.toNat pc0).x, (lb.getD i.toNat pc0).y, s, 0⟩
theorem one_ok {wd hi : Int} {lb : List Pc} {i s : Int} (hb : boardOk wd hi lb = true) (hi : 0 ≤ i ∧ i < lb.length) (hs : 0 ≤ s ∧ s ≤ 3) : pushesOk lb [oneP lb i s] = true := by
  have hk : i.toNat < lb.length := by omega
  have hg : lb.getD i.toNat pc0 = lb[i.toNat] := getD_pc hk
  have hm := List.getElem_mem hk
  have ho := Pc.ok_at (boardOk_ok hb _ hm)
  have hf := findFrom_mem (j := 0) (by omega) hm
  unfold pushesOk
  simp only [oneP, hg, plains, founds, Bool.and_true, Bool.and_eq_true, List.length_singleton]
  exact ⟨⟨by decide, by simp only [Pu.plain, decide_eq_true_eq]; omega⟩, by simpa using hf⟩
theorem oneC_zero {R : Bool} {m : Nat} {i s : Int} (h : oneC R m i s = 0) : R = true ∧ (0 ≤ i ∧ i < m) ∧ 0 ≤ s ∧ s ≤ 3 := by
  unfold oneC at h
  split at h
  · rename_i h1
    split at h
    · rename_i h2; exact ⟨h1, h2⟩
    · omega
  · omega
theorem one_runs {wd hi : Int} {lb : List Pc} {R : Bool} (i s : Int) (hR : R = boardOk wd hi lb) : ∃ lr, RunsTo (decide (oneC R lb.length i s = 0)) lb [oneP lb i s] lr ∧ FlsWf lr ∧ lr.length ≤ 200 := by
  by_cases h : oneC R lb.length i s = 0
  · obtain ⟨h1, h2, h3⟩ := oneC_zero h
    rw [decide_eq_true h]
    obtain ⟨lr, a, b, c, _⟩ := runs_exist (R := true) (wd := wd) (hi := hi) (lb := lb) (l := [oneP lb i s]) (by rw [← hR, h1, one_ok (by rw [← hR, h1]) h2 h3]; rfl)
    exact ⟨lr, a, b, c⟩
  · rw [decide_eq_false h]
    exact ⟨[], ⟨fun _ => rfl, fun h => by cases h⟩, fun p hp => absurd hp (by simp), by simp⟩
theorem one_wf {lb : List Pc} {i s : Int} (h8 : All8 lb) (hi : 0 ≤ i ∧ i < lb.length) (hs : 0 ≤ s ∧ s ≤ 3) : PusWf [oneP lb i s] := by
  intro p hp
  obtain rfl := List.mem_singleton.1 hp
  have hk : i.toNat < lb.length := by omega
  have hg : lb.getD i.toNat pc0 = lb[i.toNat] := getD_pc hk
  have h := h8 _ (List.getElem_mem hk)
  simp only [oneP, hg]
  exact ⟨wf8' h.1, wf8' h.2.1, wf8' (show -128 ≤ s ∧ s ≤ 127 by omega), by simp [Lit.wf, IntKind.min, IntKind.max, IntKind.signed, IntKind.bits]⟩
/-- what the closure does: it panics, or answers -/
def OneEnd (bad : Prop) (i : Int) (lr : List Fl) (C : Int) (w : World) (e : Ending) (w' : World) : Prop :=
  (bad → e = .panicked [noPieceP i]) ∧ (¬ bad → ∃ v, e = .returned (.tuple #[v, .int .i64 C]) ∧ SlWFl w.heap.size w'.heap.size w' lr v) ∧ Below w.heap.size w w'
set_option maxRecDepth 100000 in
set_option maxHeartbeats 4000000 in
theorem pushOne1_any (bx ix sx b m cap : Nat) (wd hi i s : Int) (lb : List Pc) (w : World) (hm : lb.length = m) (hbd : BdAt w bx 0 wd hi (.slice (some ⟨b, 0, none⟩) m cap)) (hix : w.cell? ⟨ix, 0, none⟩ = some (.int .i64 i)) (hsx : w.cell? ⟨sx, 0, none⟩ = some (.int .i64 s))
    (hq : PcsAt w b 0 lb) (hbb : b < w.heap.size) (hcap : m ≤ cap) (h8 : All8 lb) (hmm : m ≤ 1048576) (R : Bool) (hR : R = boardOk wd hi lb) (hst : StayAt w) (lr : List Fl) (hlr : RunsTo (decide (oneC R m i s = 0)) lb [oneP lb i s] lr) (C : Int) (hC : oneC R m i s = C) :
    Calls Tryd.prog 85 #[.pointer (some ⟨bx, 0, none⟩), .pointer (some ⟨ix, 0, none⟩), .pointer (some ⟨sx, 0, none⟩)] w (OneEnd (R = true ∧ ¬ (0 ≤ i ∧ i < m)) i lr C w) := by
  have hbxl := hbd.lt
  have hixl := World.block_lt_of_cell? w _ hix
  have hsxl := World.block_lt_of_cell? w _ hsx
  have HV := Lib.hid (implValidBoard_any b 0 m cap wd hi lb w hm hq hbb hcap h8 hmm R hR)
  have Hbd := Lib.hid hbd
  have Hq := Lib.hid hq
  have HS := Lib.hid hst
  have Hlr := Lib.hid hlr
  have HR := Lib.hid hR
  have Hm := Lib.hid hm
  have H8 := Lib.hid h8
  have hC0 := hC
  have HC := Lib.hid hC0
  clear hq hst hlr hR hm h8 hC0
  obtain ⟨q0, q1, q2⟩ := hbd
  simp only [Nat.zero_add] at q0 q1 q2
  cases R with
  | false =>
    obtain rfl : (1 : Int) = C := hC
    obtain rfl : lr = [] := Hlr.out.1 (by simp [oneC])
    clear HC Hlr
    go_enter Tryd.func85, Tryd.ntmps85
    go_wp2_with fail
    refine HV.out.mono ?_
    rintro e w1 ⟨rfl, hb1⟩
    clear HV
    go_wp2
    exact bodyPost_ret (v := .tuple #[.slice none 0 0, .int .i64 1]) (by simp [results, Tryd.results85, go_sem]) rfl ⟨fun h => (by cases h.1), fun _ => ⟨_, rfl, .empty _ _ rfl⟩, by repeat (first | with_reducible exact Below.refl _ _ | (with_reducible refine kSet ?_ ?hB _; case hB => (simp; try omega)) | with_reducible refine kAlloc ?_ _ | with_reducible refine Below.drew ?_ | with_reducible refine kDrewN ?_ _ | with_reducible refine kTrans ?_ (by assumption))⟩
  | true =>
    by_cases hin : 0 ≤ i ∧ i < m
    · obtain ⟨k, rfl⟩ : ∃ k : Nat, i = k := ⟨i.toNat, by omega⟩
      have hkm : k < m := by omega
      have hkl : k < lb.length := by rw [Hm.out]; exact hkm
      have hgp : lb[k]? = some lb[k] := List.getElem?_eq_getElem hkl
      have hgd : lb.getD ((k : Int)).toNat pc0 = lb[k] := by rw [Int.toNat_natCast]; exact getD_pc hkl
      have h8p := H8.out _ (List.getElem_mem hkl)
      generalize hpe : lb[k] = p at hgp hgd h8p
      have Hgp := Lib.hid hgp
      have Hgd := Lib.hid hgd
      clear hgp hgd hpe hkl
      go_enter Tryd.func85, Tryd.ntmps85
      go_wp2_with fail
      refine HV.out.mono ?_
      rintro e w1 ⟨rfl, hb1⟩
      have d2 := (hb1.cell (p := ⟨bx, 2, none⟩) hbxl).trans q2
      have i1 := (hb1.cell (p := ⟨ix, 0, none⟩) hixl).trans hix
      clear HV
      go_wp2_with fail
      refine (numberedPc_ok b 0 m cap k lb p _ Hm.out (Hq.out.below hb1 hbb) (Nat.lt_of_lt_of_le hbb hb1.size) hcap hmm hkm Hgp.out).mono ?_
      rintro e w2 ⟨rfl, hb2⟩
      have hb02 := kTrans hb1 hb2
      have hkA : Below w.heap.size w (w2.alloc (.cells #[.int .i8 p.x, .int .i8 p.y, .int .i8 p.kind, .int .i8 p.turn, .int .i8 p.delay] 114)) := kAlloc hb02 _
      have s2 := (hkA.cell (p := ⟨sx, 0, none⟩) hsxl).trans hsx
      clear d2 i1 hb1 hb2
      obtain ⟨Rs, hRs⟩ : ∃ Rs, Rs = decide (0 ≤ s ∧ s ≤ 3) := ⟨_, rfl⟩
      go_wp2_with fail
      refine (isSide_any s _ Rs hRs).mono ?_
      rintro e w3 ⟨rfl, rfl⟩
      cases Rs with
      | false =>
        have hno : ¬ (0 ≤ s ∧ s ≤ 3) := of_decide_eq_false hRs.symm
        obtain rfl : (2 : Int) = C := by rw [← HC.out]; unfold oneC; rw [if_pos rfl, if_neg (fun h => hno h.2)]
        obtain rfl : lr = [] := Hlr.out.1 (by rw [HC.out]; rfl)
        clear hRs hno HC hC Hlr s2
        go_wp2
        exact bodyPost_ret (v := .tuple #[.slice none 0 0, .int .i64 2]) (by simp [results, Tryd.results85, go_sem]) rfl ⟨fun h => absurd hin h.2, fun _ => ⟨_, rfl, .empty _ _ rfl⟩, hkA⟩
      | true =>
        have hyes : 0 ≤ s ∧ s ≤ 3 := of_decide_eq_true hRs.symm
        obtain rfl : (0 : Int) = C := by rw [← HC.out]; unfold oneC; rw [if_pos rfl, if_pos ⟨by omega, hyes⟩]
        have Hlr2 : Hid (RunsTo true lb [oneP lb k s] lr) := Lib.hid (by have h := Hlr.out; rwa [show decide (oneC true m (k : Int) s = 0) = true by rw [HC.out]; rfl] at h)
        have Hpo : Hid (oneP lb k s = ⟨p.x, p.y, s, 0⟩) := Lib.hid (by unfold oneP; rw [Hgd.out])
        have hok : true = (boardOk wd hi lb && pushesOk lb [oneP lb k s]) := by rw [← HR.out, one_ok HR.out.symm (by rw [Hm.out]; omega) hyes]; rfl
        have Hok := Lib.hid hok
        have Hpw := Lib.hid (one_wf (i := (k : Int)) (s := s) H8.out (by rw [Hm.out]; omega) hyes)
        clear hRs HC hC Hlr hok
        have d0 := (hkA.cell (p := ⟨bx, 0, none⟩) hbxl).trans q0
        have d1 := (hkA.cell (p := ⟨bx, 1, none⟩) hbxl).trans q1
        have d2 := (hkA.cell (p := ⟨bx, 2, none⟩) hbxl).trans q2
        have wss : IntKind.i8.wrap s = s := IntWalk.i8_in _ (by omega)
        have bA : Below w2.heap.size w2 ((w2.alloc (.cells #[.int .i8 p.x, .int .i8 p.y, .int .i8 p.kind, .int .i8 p.turn, .int .i8 p.delay] 114)).alloc (.cells #[.int .i8 p.x, .int .i8 p.y, .int .i8 s, .int .i16 0] 75)) := by repeat (first | with_reducible exact Below.refl _ _ | (with_reducible refine kSet ?_ ?hB _; case hB => (simp; try omega)) | with_reducible refine kAlloc ?_ _ | with_reducible refine Below.drew ?_ | with_reducible refine kDrewN ?_ _ | with_reducible refine kTrans ?_ (by assumption))
        have hkB := kTrans hb02 bA
        have hnew := heap_two w2 (.cells #[.int .i8 p.x, .int .i8 p.y, .int .i8 p.kind, .int .i8 p.turn, .int .i8 p.delay] 114) (.cells #[.int .i8 p.x, .int .i8 p.y, .int .i8 s, .int .i16 0] 75)
        have hpu : Hid (PusAt ((w2.alloc (.cells #[.int .i8 p.x, .int .i8 p.y, .int .i8 p.kind, .int .i8 p.turn, .int .i8 p.delay] 114)).alloc (.cells #[.int .i8 p.x, .int .i8 p.y, .int .i8 s, .int .i16 0] 75)) (w2.heap.size + 1) 0 [oneP lb k s]) := Lib.hid (by
          intro j hj
          obtain rfl : j = 0 := by simpa using hj
          simp only [List.getElem_cons_zero, Hpo.out]
          exact ⟨cell_of_row _ _ 0 _ _ _ hnew, cell_of_row _ _ 1 _ _ _ hnew, cell_of_row _ _ 2 _ _ _ hnew, cell_of_row _ _ 3 _ _ _ hnew⟩)
        have HX := Lib.hid (implRunBoard_any b 0 m cap wd hi lb (w2.heap.size + 1) 1 [oneP lb k s] _ Hm.out (Hq.out.below hkB hbb) (Nat.lt_of_lt_of_le hbb hkB.size) hcap H8.out hmm rfl hpu.out (blk_lt hnew) Hpw.out (by omega) true Hok.out (HS.out.below hkB) lr Hlr2.out 0 ⟨fun _ => rfl, fun h => (by cases h)⟩)
        clear hnew hpu
        go_wp2_with fail
        refine HX.out.mono ?_
        rintro e w4 ⟨v, rfl, hv, hb4⟩
        have T := kTrans hkB hb4
        obtain ⟨va, vc, rfl⟩ := hv.form
        have Hv := Lib.hid (hv.mono hkB.size (Nat.le_refl _))
        clear hv HX hb4 bA hkB hkA hb02 d0 d1 d2 s2
        go_wp2
        exact bodyPost_ret (v := .tuple #[.slice va lr.length vc, .int .i64 0]) (by simp [results, Tryd.results85, go_sem]) rfl ⟨fun h => absurd hin h.2, fun _ => ⟨_, rfl, Hv.out⟩, T⟩
    · have HRn := Lib.hid (numberedPc_no (some ⟨b, 0, none⟩) m cap i)
      go_enter Tryd.func85, Tryd.ntmps85
      go_wp2_with fail
      refine HV.out.mono ?_
      rintro e w1 ⟨rfl, hb1⟩
      have d2 := (hb1.cell (p := ⟨bx, 2, none⟩) hbxl).trans q2
      have i1 := (hb1.cell (p := ⟨ix, 0, none⟩) hixl).trans hix
      clear HV
      go_wp2_with fail
      refine (HRn.out _ hmm (by omega)).mono ?_
      rintro e w2 ⟨rfl, hb2⟩
      go_wp2
      exact ⟨rfl, ⟨fun _ => rfl, fun h => (h (by first | exact ⟨rfl, hin⟩ | exact trivial)).elim, kTrans hb1 hb2⟩⟩
set_option maxRecDepth 100000 in
set_option maxHeartbeats 4000000 in
theorem refPush_any (bx ix sx : Nat) (bad : Prop) (i : Int) (lr : List Fl) (C : Int) (w : World) (hbad : bad → C = 2 ∧ lr = [])
    (HC : ∀ w1, Below w.heap.size w w1 → Calls Tryd.prog 85 #[.pointer (some ⟨bx, 0, none⟩), .pointer (some ⟨ix, 0, none⟩), .pointer (some ⟨sx, 0, none⟩)] w1 (OneEnd bad i lr C w1)) :
    Calls Tryd.prog 84 #[.func (.func 85) #[] #[.pointer (some ⟨bx, 0, none⟩), .pointer (some ⟨ix, 0, none⟩), .pointer (some ⟨sx, 0, none⟩)]] w (FlPost lr C w) := by
  have hmf : ∀ (fn : Fn) (first cap : Array Value) (w : World), (Instr.makeFunc fn first cap).run Tryd.prog w = .ok (.func fn first cap) w := fun _ _ _ _ => rfl
  have bA : Below w.heap.size w (w.alloc (.cells #[.int .i64 0] 2)) := kAlloc (Below.refl _ _) _
  have H1 := Lib.hid (HC _ bA)
  have hnew := heap_alloc_new w (.cells #[.int .i64 0] 2)
  have hsz : (w.alloc (.cells #[.int .i64 0] 2)).heap.size = w.heap.size + 1 := by simp
  have Hbad := Lib.hid hbad
  clear HC hbad
  go_enter_defers Tryd.func84, Tryd.ntmps84
  go_wp2_with fail
  refine H1.out.mono ?_
  rintro e w2 ⟨h1, h2, hb2⟩
  have hx := blk_below hnew hb2
  have c0 : w2.cell? ⟨w.heap.size, 0, none⟩ = some (.int .i64 0) := cell_of_row _ _ 0 _ _ _ hx
  have z0 : w2.frozen? ⟨w.heap.size, 0, none⟩ = false := frozen_of_row _ _ 0 _ _ hx
  have T2 := kTrans bA hb2
  clear H1 hnew hx
  by_cases hb : bad
  · obtain rfl := h1 hb
    obtain ⟨rfl, rfl⟩ := Hbad.out hb
    clear h1 h2 hb2
    go_wp2
    refine leaves_cons (f := 116) (args := #[.pointer (some ⟨w.heap.size, 0, none⟩)]) (by simp) (by simp [go_sem]) ?_
    refine (catchF_refused ⟨w.heap.size, 0, none⟩ 0 i [] _ c0 z0).mono ?_
    rintro e u' w'' ⟨rfl, rfl, rfl⟩
    have c1 : (w2.setCell ⟨w.heap.size, 0, none⟩ (.int .i64 1)).cell? ⟨w.heap.size, 0, none⟩ = some (.int .i64 1) := World.cell?_setCell_same _ _ _ c0
    have c2 : ((w2.setCell ⟨w.heap.size, 0, none⟩ (.int .i64 1)).setCell ⟨w.heap.size, 0, none⟩ (.int .i64 2)).cell? ⟨w.heap.size, 0, none⟩ = some (.int .i64 2) := World.cell?_setCell_same _ _ _ c1
    have T3 : Below w.heap.size w ((w2.setCell ⟨w.heap.size, 0, none⟩ (.int .i64 1)).setCell ⟨w.heap.size, 0, none⟩ (.int .i64 2)) := kSet (kSet T2 (Nat.le_refl _) _) (Nat.le_refl _) _
    generalize (w2.setCell ⟨w.heap.size, 0, none⟩ (.int .i64 1)).setCell ⟨w.heap.size, 0, none⟩ (.int .i64 2) = w5 at *
    simp [settle, Leaves, results, Tryd.results84, go_sem, c2]
    exact ⟨_, rfl, .empty _ _ rfl, T3⟩
  · obtain ⟨v, rfl, hv⟩ := h2 hb
    clear h1 h2
    go_wp2
    refine leaves_cons (f := 116) (args := #[.pointer (some ⟨w.heap.size, 0, none⟩)]) (by simp) (by simp [go_sem]) ?_
    refine (catchF_idle ⟨w.heap.size, 0, none⟩ _).mono ?_
    rintro e u' w'' ⟨rfl, rfl, rfl⟩
    have c2 : (w2.setCell ⟨w.heap.size, 0, none⟩ (.int .i64 C)).cell? ⟨w.heap.size, 0, none⟩ = some (.int .i64 C) := World.cell?_setCell_same _ _ _ c0
    have T3 : Below w.heap.size w (w2.setCell ⟨w.heap.size, 0, none⟩ (.int .i64 C)) := kSet T2 (Nat.le_refl _) _
    have hs3 : (w2.setCell ⟨w.heap.size, 0, none⟩ (.int .i64 C)).heap.size = w2.heap.size := by simp [World.setCell]
    have hv3 : SlWFl w.heap.size (w2.setCell ⟨w.heap.size, 0, none⟩ (.int .i64 C)).heap.size (w2.setCell ⟨w.heap.size, 0, none⟩ (.int .i64 C)) lr v := by
      have k3 : KeptOut w.heap.size (w.heap.size + 1) w2 (w2.setCell ⟨w.heap.size, 0, none⟩ (.int .i64 C)) := KeptOut.set (KeptOut.of_below (Below.refl _ _)) ⟨w.heap.size, 0, none⟩ (Nat.le_refl _) (Nat.lt_succ_self _) _
      rw [hs3]
      exact (hv.out k3 (.inr (by omega))).mono (by omega) (Nat.le_refl _)
    clear hv hs3 c0 z0 hb2
    generalize w2.setCell ⟨w.heap.size, 0, none⟩ (.int .i64 C) = w5 at *
    simp [settle, Leaves, results, Tryd.results84, go_sem, c2]
    exact ⟨_, rfl, hv3, T3⟩
end Go.Proofs.YtmabcfepkcpcoaaDoor
