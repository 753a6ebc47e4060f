/- StandingAfter, FallenUntil: the program and the model. -/
import Derived.Test.YtmabcfepkcpcoaaDoorIw
import Derived.Test.YtmabcfepkcpcoaaDoorG7
namespace Go.Proofs.YtmabcfepkcpcoaaDoor
open Go.ChangeShapes Go.WideShapes Go.ChangeAt Go.RowKit Go.Shelf
set_option linter.unusedVariables false
set_option linter.unusedSimpArgs false

/-- the answer of a function that gives numbers and a code -/
def InPost (L : List Int) (C : Int) (w : World) (e : Ending) (w' : World) : Prop :=
  ∃ v, e = .returned (.tuple #[v, .int .i64 C]) ∧ SlWIn w.heap.size w'.heap.size w' L v ∧ Below w.heap.size w w'
theorem stays_same {lb : List Pc} {l : List Pu} {lr : List Fl} {R : Bool} (h : RunsTo R lb l lr) : idxs (fun f => decide (f = stay)) lr 0 = idxs staysB lr 0 :=
  idxs_congr (fun f hf => by have := runs_stay h f hf; simp only [staysB, decide_eq_decide]; exact this.symm)
theorem falls_same {lb : List Pc} {l : List Pu} {lr : List Fl} {R : Bool} (h : RunsTo R lb l lr) : idxs (fun f => !decide (f = stay)) lr 0 = idxs fallsB lr 0 :=
  idxs_congr (fun f hf => by have := runs_stay h f hf; simp only [fallsB, ← decide_not, decide_eq_decide]; rw [← this]; omega)
theorem fallen_same {lb : List Pc} {l : List Pu} {lr : List Fl} {R : Bool} (t : Int) (h : RunsTo R lb l lr) : idxs (fun f => (!decide (f = stay) && decide (f.tick ≤ t))) lr 0 = idxs (fallenB t) lr 0 :=
  idxs_congr (fun f hf => by have := runs_stay h f hf; simp only [fallenB, ← decide_not, ← Bool.decide_and, decide_eq_decide]; rw [← this]; omega)
def fallQ (R : Bool) (t : Int) (lr : List Fl) : List Int × Int := if R = true then (if 0 ≤ t ∧ t ≤ 1000000 then (idxs (fallenB t) lr 0, 0) else ([], 2)) else ([], 1)
theorem fallQ_ok {R : Bool} {t : Int} {lr : List Fl} {L : List Int} {C : Int} (hl : lr.length ≤ 200) (h : fallQ R t lr = (L, C)) : InsWf L ∧ L.length ≤ 1048576 := by
  have hnil : InsWf ([] : List Int) ∧ ([] : List Int).length ≤ 1048576 := ⟨fun p hp => absurd hp (by simp), by simp⟩
  unfold fallQ at h
  split at h
  · split at h
    · injection h with h1 _; rw [← h1]; exact idxs_wf hl
    · injection h with h1 _; rw [← h1]; exact hnil
  · injection h with h1 _; rw [← h1]; exact hnil
theorem pair_li {a b : List Int} {c d : Int} (h : (a, c) = (b, d)) : a = b ∧ c = d := by injection h with h1 h2; exact ⟨h1, h2⟩
set_option maxRecDepth 100000 in
set_option maxHeartbeats 2000000 in
theorem implStandingAfter_any (b m cap : Nat) (wd hi : Int) (lb : List Pc) (pb n : Nat) (l : List Pu) (w : World) (hm : lb.length = m) (hq : PcsAt w b 0 lb) (hbb : b < w.heap.size) (hcap : m ≤ cap) (h8 : All8 lb) (hmm : m ≤ 1048576)
    (hn : l.length = n) (hp : PusAt w pb 0 l) (hb : pb < w.heap.size) (hw : PusWf l) (hmax : n ≤ 1048576) (R : Bool) (hR : R = (boardOk wd hi lb && pushesOk lb l)) (hst : StayAt w) (lr : List Fl) (hlr : RunsTo R lb l lr) (hlen : lr.length ≤ 200) (L : List Int) (hL : idxs staysB lr 0 = L) (C : Int) (hC : (R = true → C = 0) ∧ (R = false → C = 1)) :
    Calls Tryd.prog 33 #[.agg #[.int .i8 wd, .int .i8 hi, .slice (some ⟨b, 0, none⟩) m cap], .slice (some ⟨pb, 0, none⟩) n n] w (InPost L C w) := by
  have hk : Below w.heap.size w (w.alloc (.cells #[.int .i8 wd, .int .i8 hi, .slice (some ⟨b, 0, none⟩) m cap] 34)) := by repeat (first | with_reducible exact Below.refl _ _ | (with_reducible refine kSet ?_ ?hB _; case hB => (simp; try omega)) | with_reducible refine kAlloc ?_ _ | with_reducible refine Below.drew ?_ | with_reducible refine kDrewN ?_ _ | with_reducible refine kTrans ?_ (by assumption))
  have H1 := Lib.hid ((fun C' (hC : (R = true → C' = 0) ∧ (R = false → C' = 1)) => implRunBoard_any b 0 m cap wd hi lb pb n l _ hm (hq.below hk hbb) (Nat.lt_of_lt_of_le hbb hk.size) hcap h8 hmm hn (hp.below hk hb) (Nat.lt_of_lt_of_le hb hk.size) hw hmax R hR (hst.below hk) lr hlr C' hC) C hC)
  have HS := Lib.hid (fun w1 (h : Below w.heap.size w w1) => hst.below h)
  have HL := Lib.hid ((stays_same hlr).trans hL)
  clear hm hq hn hp hR h8 hw hst hlr hL hC
  go_enter Tryd.func33, Tryd.ntmps33
  go_wp2_with fail
  refine H1.out.mono ?_
  rintro e w1 ⟨v, rfl, hv, hb1⟩
  have hb01 := kTrans hk hb1
  obtain ⟨a, c, rfl⟩ := hv.form
  have Hv1 := Lib.hid hv
  clear hv H1 hb1
  go_wp2_with fail
  refine (indices_staying _ lr _ _ w1 Hv1.out hlen (HS.out w1 hb01) L HL.out).mono ?_
  rintro e w2 ⟨v2, rfl, hv2, hb2⟩
  have T := kTrans hb01 hb2
  obtain ⟨a2, c2, rfl⟩ := hv2.form
  have Hv := Lib.hid (hv2.mono hb01.size (Nat.le_refl _))
  clear hv2 Hv1 HS hb2
  go_wp2
  exact bodyPost_ret (v := .tuple #[.slice a2 L.length c2, .int .i64 C]) (by simp [results, Tryd.results33, go_sem]) rfl ⟨_, rfl, Hv.out, T⟩
set_option maxHeartbeats 1000000 in
theorem isFarTick_any (t : Int) (w : World) (R : Bool) (hR : decide (0 ≤ t ∧ t ≤ 1000000) = R) : Calls Tryd.prog 64 #[.int .i64 t] w fun e w' => e = .returned (.bool R) ∧ Below w.heap.size w w' := by
  by_cases h1 : 0 ≤ t
  · by_cases h2 : t ≤ 1000000
    · obtain rfl : R = true := by rw [← hR]; simp [h1, h2]
      clear hR
      go_enter Tryd.func64, Tryd.ntmps64
      go_wp2
      go_ret
      exact ⟨by simp [h1, h2], by repeat (first | with_reducible exact Below.refl _ _ | (with_reducible refine kSet ?_ ?hB _; case hB => (simp; try omega)) | with_reducible refine kAlloc ?_ _ | with_reducible refine Below.drew ?_ | with_reducible refine kDrewN ?_ _ | with_reducible refine kTrans ?_ (by assumption))⟩
    · obtain rfl : R = false := by rw [← hR]; simp [h2]
      clear hR
      go_enter Tryd.func64, Tryd.ntmps64
      go_wp2
      go_ret
      exact ⟨by simp [h1, h2], by repeat (first | with_reducible exact Below.refl _ _ | (with_reducible refine kSet ?_ ?hB _; case hB => (simp; try omega)) | with_reducible refine kAlloc ?_ _ | with_reducible refine Below.drew ?_ | with_reducible refine kDrewN ?_ _ | with_reducible refine kTrans ?_ (by assumption))⟩
  · obtain rfl : R = false := by rw [← hR]; simp [h1]
    clear hR
    go_enter Tryd.func64, Tryd.ntmps64
    go_wp2
    go_ret
    exact ⟨by simp [h1], by repeat (first | with_reducible exact Below.refl _ _ | (with_reducible refine kSet ?_ ?hB _; case hB => (simp; try omega)) | with_reducible refine kAlloc ?_ _ | with_reducible refine Below.drew ?_ | with_reducible refine kDrewN ?_ _ | with_reducible refine kTrans ?_ (by assumption))⟩
set_option maxRecDepth 100000 in
set_option maxHeartbeats 2000000 in
theorem implFallenUntil_any (b m cap : Nat) (wd hi : Int) (lb : List Pc) (pb n : Nat) (l : List Pu) (w : World) (hm : lb.length = m) (hq : PcsAt w b 0 lb) (hbb : b < w.heap.size) (hcap : m ≤ cap) (h8 : All8 lb) (hmm : m ≤ 1048576)
    (hn : l.length = n) (hp : PusAt w pb 0 l) (hb : pb < w.heap.size) (hw : PusWf l) (hmax : n ≤ 1048576) (R : Bool) (hR : R = (boardOk wd hi lb && pushesOk lb l)) (hst : StayAt w) (lr : List Fl) (hlr : RunsTo R lb l lr) (hlen : lr.length ≤ 200) (t : Int) (bt : -9223372036854775808 ≤ t ∧ t ≤ 9223372036854775807) (L : List Int) (C : Int) (hQ : fallQ R t lr = (L, C)) :
    Calls Tryd.prog 28 #[.agg #[.int .i8 wd, .int .i8 hi, .slice (some ⟨b, 0, none⟩) m cap], .slice (some ⟨pb, 0, none⟩) n n, .int .i64 t] w (InPost L C w) := by
  have hk : Below w.heap.size w ((w.alloc (.cells #[.int .i8 wd, .int .i8 hi, .slice (some ⟨b, 0, none⟩) m cap] 34)).alloc (.cells #[.int .i64 t] 2)) := by repeat (first | with_reducible exact Below.refl _ _ | (with_reducible refine kSet ?_ ?hB _; case hB => (simp; try omega)) | with_reducible refine kAlloc ?_ _ | with_reducible refine Below.drew ?_ | with_reducible refine kDrewN ?_ _ | with_reducible refine kTrans ?_ (by assumption))
  have hkt : ((w.alloc (.cells #[.int .i8 wd, .int .i8 hi, .slice (some ⟨b, 0, none⟩) m cap] 34)).alloc (.cells #[.int .i64 t] 2)).cell? ⟨w.heap.size + 1, 0, none⟩ = some (.int .i64 t) := by simp
  have hks : w.heap.size + 1 < ((w.alloc (.cells #[.int .i8 wd, .int .i8 hi, .slice (some ⟨b, 0, none⟩) m cap] 34)).alloc (.cells #[.int .i64 t] 2)).heap.size := by simp
  have HX := Lib.hid (fun C' (hC : (R = true → C' = 0) ∧ (R = false → C' = 1)) => implRunBoard_any b 0 m cap wd hi lb pb n l _ hm (hq.below hk hbb) (Nat.lt_of_lt_of_le hbb hk.size) hcap h8 hmm hn (hp.below hk hb) (Nat.lt_of_lt_of_le hb hk.size) hw hmax R hR (hst.below hk) lr hlr C' hC)
  have HS := Lib.hid (fun w1 (h : Below w.heap.size w w1) => hst.below h)
  have HF := Lib.hid (fallen_same t hlr)
  have HQ := Lib.hid hQ
  clear hm hq hn hp hR h8 hw hst hlr hQ
  cases R with
  | false =>
    obtain ⟨rfl, rfl⟩ := pair_li (show (([] : List Int), (1 : Int)) = (L, C) from HQ.out)
    have H1 := Lib.hid (HX.out 1 ⟨fun h => (by cases h), fun _ => rfl⟩)
    clear HX HQ HF HS
    go_enter Tryd.func28, Tryd.ntmps28
    go_wp2_with fail
    refine H1.out.mono ?_
    rintro e w1 ⟨v, rfl, hv, hb1⟩
    obtain ⟨a, c, rfl⟩ := hv.form
    clear hv H1
    go_wp2
    exact bodyPost_ret (v := .tuple #[.slice none 0 0, .int .i64 1]) (by simp [results, Tryd.results28, go_sem]) rfl ⟨_, rfl, .empty _ _ rfl, kTrans hk hb1⟩
  | true =>
    have H1 := Lib.hid (HX.out 0 ⟨fun _ => rfl, fun h => (by cases h)⟩)
    obtain ⟨Rt, hRt⟩ : ∃ Rt, decide (0 ≤ t ∧ t ≤ 1000000) = Rt := ⟨_, rfl⟩
    have HRt := Lib.hid hRt
    clear HX hRt
    go_enter Tryd.func28, Tryd.ntmps28
    go_wp2_with fail
    refine H1.out.mono ?_
    rintro e w1 ⟨v, rfl, hv, hb1⟩
    have hb01 := kTrans hk hb1
    obtain ⟨a, c, rfl⟩ := hv.form
    have Hv1 := Lib.hid hv
    have ht1 := (hb1.cell (p := ⟨w.heap.size + 1, 0, none⟩) hks).trans hkt
    clear hv H1 hb1 hkt hks
    go_wp2_with fail
    refine (isFarTick_any t _ Rt HRt.out).mono ?_
    rintro e w2 ⟨rfl, hb2⟩
    have hb02 := kTrans hb01 hb2
    have ht2 := (hb2.cell (p := ⟨w.heap.size + 1, 0, none⟩) (World.block_lt_of_cell? w1 _ ht1)).trans ht1
    have Hv2 := Lib.hid (Hv1.out.below hb2)
    clear Hv1 hb01 hb2 ht1
    cases Rt with
    | false =>
      have hno : ¬ (0 ≤ t ∧ t ≤ 1000000) := of_decide_eq_false HRt.out
      obtain ⟨rfl, rfl⟩ := pair_li (show (([] : List Int), (2 : Int)) = (L, C) from by have h := HQ.out; unfold fallQ at h; rw [if_pos rfl, if_neg hno] at h; exact h)
      clear HQ hno Hv2 ht2
      go_wp2
      exact bodyPost_ret (v := .tuple #[.slice none 0 0, .int .i64 2]) (by simp [results, Tryd.results28, go_sem]) rfl ⟨_, rfl, .empty _ _ rfl, hb02⟩
    | true =>
      have hyes : 0 ≤ t ∧ t ≤ 1000000 := of_decide_eq_true HRt.out
      have hL2 : idxs (fallenB t) lr 0 = L ∧ (0 : Int) = C := pair_li (by have h := HQ.out; unfold fallQ at h; rw [if_pos rfl, if_pos hyes] at h; exact h)
      obtain ⟨hL3, rfl⟩ := hL2
      have HL := Lib.hid (HF.out.trans hL3)
      clear HQ hL3 hyes
      go_wp2_with fail
      refine (indices_fallen _ lr (w.heap.size + 1) t _ _ w2 Hv2.out hlen (HS.out w2 hb02) ht2 L HL.out).mono ?_
      rintro e w3 ⟨v2, rfl, hv2, hb3⟩
      have T := kTrans hb02 hb3
      obtain ⟨a2, c2, rfl⟩ := hv2.form
      have Hv := Lib.hid (hv2.mono hb02.size (Nat.le_refl _))
      clear hv2 Hv2 HS hb3 ht2
      go_wp2
      exact bodyPost_ret (v := .tuple #[.slice a2 L.length c2, .int .i64 0]) (by simp [results, Tryd.results28, go_sem]) rfl ⟨_, rfl, Hv.out, T⟩
set_option maxRecDepth 100000 in
set_option maxHeartbeats 4000000 in
theorem specStandingAfter_any (b m cap : Nat) (wd hi : Int) (lb : List Pc) (pb n : Nat) (l : List Pu) (w : World) (hm : lb.length = m) (hq : PcsAt w b 0 lb) (hbb : b < w.heap.size) (hcap : m ≤ cap) (h8 : All8 lb) (hw8 : i8 wd) (hh8 : i8 hi) (hmm : m ≤ 1048576)
    (hn : l.length = n) (hp : PusAt w pb 0 l) (hb : pb < w.heap.size) (hw : PusWf l) (hmax : n ≤ 1048576) (R : Bool) (hR : R = (boardOk wd hi lb && pushesOk lb l)) (lr : List Fl) (hlr : RunsTo R lb l lr) (hlen : lr.length ≤ 200) (L : List Int) (hL : idxs staysB lr 0 = L) (C : Int) (hC : (R = true → C = 0) ∧ (R = false → C = 1)) :
    Calls Tryd.prog 32 #[.agg #[.int .i8 wd, .int .i8 hi, .slice (some ⟨b, 0, none⟩) m cap], .slice (some ⟨pb, 0, none⟩) n n] w (InPost L C w) := by
  obtain ⟨i0, hi0, hz0, hzz1, hzz2⟩ := info_parts info_i64
  have Hi := Lib.hid hi0
  have Hz0 := Lib.hid hz0
  have Hz1 := Lib.hid hzz1
  have Hz2 := Lib.hid hzz2
  have hk : Below w.heap.size w (w.alloc (.cells #[.int .i8 wd, .int .i8 hi, .slice (some ⟨b, 0, none⟩) m cap] 34)) := by repeat (first | with_reducible exact Below.refl _ _ | (with_reducible refine kSet ?_ ?hB _; case hB => (simp; try omega)) | with_reducible refine kAlloc ?_ _ | with_reducible refine Below.drew ?_ | with_reducible refine kDrewN ?_ _ | with_reducible refine kTrans ?_ (by assumption))
  have hbx := BdAt.box w wd hi (.slice (some ⟨b, 0, none⟩) m cap) 34
  have HX := Lib.hid (fun C' (hC : (R = true → C' = 0) ∧ (R = false → C' = 1)) => l02Asked_any w.heap.size 0 b 0 m cap wd hi lb pb n l _ hm hbx (hq.below hk hbb) (Nat.lt_of_lt_of_le hbb hk.size) hcap h8 hw8 hh8 hmm hn (hp.below hk hb) (Nat.lt_of_lt_of_le hb hk.size) hw hmax R hR C' hC)
  cases R with
  | false =>
    obtain rfl := hC.2 rfl
    obtain rfl : L = [] := by rw [← hL, hlr.1 rfl]; rfl
    have H1 := Lib.hid (HX.out 1 ⟨fun h => (by cases h), fun _ => rfl⟩)
    clear hm hq hn hp hR h8 hw hbx hlr HX hk hi0 hz0 hzz1 hzz2 hL hC
    go_enter Tryd.func32, Tryd.ntmps32
    go_wp2_with fail
    refine H1.out.mono ?_
    rintro e w1 ⟨rfl, hb1⟩
    have T : Below w.heap.size w w1 := by repeat (first | with_reducible exact Below.refl _ _ | (with_reducible refine kSet ?_ ?hB _; case hB => (simp; try omega)) | with_reducible refine kAlloc ?_ _ | with_reducible refine Below.drew ?_ | with_reducible refine kDrewN ?_ _ | with_reducible refine kTrans ?_ (by assumption))
    clear H1
    go_wp2
    exact bodyPost_ret (v := .tuple #[.slice (some ⟨w1.heap.size, 0, none⟩) 0 0, .int .i64 1]) (by simp [results, Tryd.results32, go_sem]) rfl ⟨_, rfl, .empty _ _ rfl, by repeat (first | with_reducible exact Below.refl _ _ | (with_reducible refine kSet ?_ ?hB _; case hB => (simp; try omega)) | with_reducible refine kAlloc ?_ _ | with_reducible refine Below.drew ?_ | with_reducible refine kDrewN ?_ _ | with_reducible refine kTrans ?_ (by assumption))⟩
  | true =>
    have H1 := Lib.hid (HX.out 0 ⟨fun _ => rfl, fun h => (by cases h)⟩)
    have HY := Lib.hid (fun w2 (h2 : Below (w.alloc (.cells #[.int .i8 wd, .int .i8 hi, .slice (some ⟨b, 0, none⟩) m cap] 34)).heap.size (w.alloc (.cells #[.int .i8 wd, .int .i8 hi, .slice (some ⟨b, 0, none⟩) m cap] 34)) w2) =>
      l02Run_to w.heap.size 0 b 0 m cap pb n wd hi lb l w2 hm (hbx.below h2 hbx.lt) ((hq.below hk hbb).below h2 (Nat.lt_of_lt_of_le hbb hk.size)) (Nat.lt_of_lt_of_le hbb (Nat.le_trans hk.size h2.size)) hcap hn ((hp.below hk hb).below h2 (Nat.lt_of_lt_of_le hb hk.size)) (Nat.lt_of_lt_of_le hb (Nat.le_trans hk.size h2.size)) hR lr hlr)
    obtain rfl := hC.1 rfl
    have HL0 := Lib.hid hL
    clear hL hC
    clear hm hq hn hp hR h8 hw hbx hlr HX hi0 hz0 hzz1 hzz2
    go_enter Tryd.func32, Tryd.ntmps32
    go_wp2_with fail
    refine H1.out.mono ?_
    rintro e w1 ⟨rfl, hb1⟩
    have hb01 := kTrans hk hb1
    have H2 := Lib.hid (HY.out w1 hb1)
    clear HY H1 hb1 hk
    go_wp2_with fail
    refine H2.out.mono ?_
    rintro e w2 ⟨v, rfl, hv, hb2⟩
    have hb02 := kTrans hb01 hb2
    clear H2 hb01 hb2
    cases hv with
    | empty a c h =>
      subst h
      obtain rfl : L = [] := HL0.out.symm
      clear HL0
      go_wp2
      refine wp_loop_rounds 1 ?_
      rw [rounds_succ]
      go_wp2
      exact bodyPost_ret (v := .tuple #[.slice (some ⟨w2.heap.size, 0, none⟩) 0 0, .int .i64 0]) (by simp [results, Tryd.results32, go_sem]) rfl ⟨_, rfl, .empty _ _ rfl, by repeat (first | with_reducible exact Below.refl _ _ | (with_reducible refine kSet ?_ ?hB _; case hB => (simp; try omega)) | with_reducible refine kAlloc ?_ _ | with_reducible refine Below.drew ?_ | with_reducible refine kDrewN ?_ _ | with_reducible refine kTrans ?_ (by assumption))⟩
    | mk g o c hc h1 h2 hg hf hle =>
      obtain ⟨nr, hnr⟩ : ∃ nr, lr.length = nr := ⟨_, rfl⟩
      rw [hnr] at hlen hle ⊢
      have Hnr := Lib.hid hnr
      have Hc := Lib.hid hc
      have bA : Below w2.heap.size w2 (w2.alloc (.cells #[] 2)) := by repeat (first | with_reducible exact Below.refl _ _ | (with_reducible refine kSet ?_ ?hB _; case hB => (simp; try omega)) | with_reducible refine kAlloc ?_ _ | with_reducible refine Below.drew ?_ | with_reducible refine kDrewN ?_ _ | with_reducible refine kTrans ?_ (by assumption))
      have own0 : Hid ((w2.alloc (.cells #[] 2)).ownsRow w2.heap.size 2 1 (.slice (some ⟨w2.heap.size, 0, none⟩) 0 0) ([] : List Int).length (flatIn [])) := Lib.hid (owns_new (Nat.le_refl _) (heap_alloc_new _ _))
      have HL : Hid (([] : List Int) ++ idxs staysB (lr.drop 0) ((0 : Nat) : Int) = L) := Lib.hid (by rw [List.drop_zero]; exact HL0.out)
      clear hf h1 h2 hc hnr HL0
      go_wp2
      go_loopw [8, 9] (fun out i wr => ∃ (k : Nat) (P : List Int), k ≤ nr ∧ i = .int .i64 k ∧ Hid (P ++ idxs staysB (lr.drop k) k = L) ∧ P.length ≤ k ∧ Hid (wr.ownsRow w2.heap.size 2 1 out P.length (flatIn P)) ∧ Below w2.heap.size w2 wr) (fun _ i _ => nr - (intOf i).toNat)
      case atStart => exact ⟨0, [], by omega, rfl, HL, by simp, own0, bA⟩
      case round =>
        clear HL own0 bA
        obtain ⟨k, P, hk', rfl, hfi, hpl, hown, hbr⟩ := hrel
        obtain ⟨va, vc, rfl⟩ := owns_slice hown.out
        have Hblk := Lib.hid (owns_block hown.out)
        by_cases hlt : k < nr
        · have hlk : k < lr.length := by rw [Hnr.out]; exact hlt
          obtain ⟨f0, f1, f2⟩ := (Hc.out.below hbr hg) k hlk
          have hd : lr.drop k = lr[k] :: lr.drop (k + 1) := List.drop_eq_getElem_cons hlk
          generalize lr[k] = f at f0 f1 f2 hd
          have hq := hfi.out
          rw [hd] at hq
          clear hfi hd Hc
          by_cases h0 : f.tick < 0
          · skip
            have hq2 : Hid ((P ++ [(k : Int)]) ++ idxs staysB (lr.drop (k + 1)) ((k + 1 : Nat) : Int) = L) := Lib.hid (by rw [← hq, idxs_yes (f := f) (by simp [staysB, h0]), List.append_assoc, show ((k + 1 : Nat) : Int) = (k : Int) + 1 by omega]; rfl)
            clear hq
            go_wp2_with (at_builtin; refine wpList_append_own _ rfl _ _ 45 rfl w2.heap.size 2 i0 _ 1 8 Tryd.underlying45 Hi.out Hz0.out Hz1.out Hz2.out rfl (by decide) (.slice va P.length vc) P.length (flatIn P) rfl (owns_below hown.out (by repeat (first | with_reducible exact Below.refl _ _ | (with_reducible refine kSet ?_ ?hB _; case hB => (simp; try omega)) | with_reducible refine kAlloc ?_ _ | with_reducible refine Below.drew ?_ | with_reducible refine kDrewN ?_ _ | with_reducible refine kTrans ?_ (by assumption)))) ⟨wr.heap.size, 0, none⟩ 1 1 [.int .i64 k] rfl rfl (World.news_of_block (cs := #[.int .i64 k]) (heap_alloc_new _ _)) (by simp [Value.oneCell']) ?qc4 ?qc5 ?qc6 ?_)
            case qc4 => unfold maxLen; omega
            case qc5 => omega
            case qc6 => have := hbr.size; simp; omega
            intro v6 w6 hown6 hgr hnil
            have Hown6 := Lib.hid (show w6.ownsRow w2.heap.size 2 1 v6 (P ++ [(k : Int)]).length (flatIn (P ++ [(k : Int)])) by rw [flatIn_end, List.length_append]; exact hown6)
            have T6 : Below w2.heap.size w2 w6 := grown_below (v := .slice va P.length vc) (by repeat (first | with_reducible exact Below.refl _ _ | (with_reducible refine kSet ?_ ?hB _; case hB => (simp; try omega)) | with_reducible refine kAlloc ?_ _ | with_reducible refine Below.drew ?_ | with_reducible refine kDrewN ?_ _ | with_reducible refine kTrans ?_ (by assumption))) hgr (by intro q hq; exact (Hblk.out q hq).1)
            clear hown6 hgr hnil hown
            go_wp2
            exact ⟨⟨k + 1, P ++ [(k : Int)], by omega, by go_num, hq2, by simp; omega, Hown6, T6⟩, by simp [intOf]; omega⟩
          · skip
            have hq2 : Hid (P ++ idxs staysB (lr.drop (k + 1)) ((k + 1 : Nat) : Int) = L) := Lib.hid (by rw [← hq, idxs_no (f := f) (by simp [staysB]; omega), show ((k + 1 : Nat) : Int) = (k : Int) + 1 by omega])
            clear hq
            go_wp2
            exact ⟨⟨k + 1, P, by omega, by go_num, hq2, by omega, hown, hbr⟩, by simp [intOf]; omega⟩
        · have hPL : P = L := by have := hfi.out; rw [List.drop_of_length_le (by rw [Hnr.out]; omega)] at this; simpa [idxs] using this
          subst hPL
          have T := kTrans hb02 hbr
          have Hs := Lib.hid ((SlWIn.of_owns hown.out).mono hb02.size (Nat.le_refl _))
          clear hfi hown Hc
          go_wp2
          exact bodyPost_ret (v := .tuple #[.slice va P.length vc, .int .i64 0]) (by simp [results, Tryd.results32, go_sem]) rfl ⟨_, rfl, Hs.out, T⟩
theorem l02Tick_any (t : Int) (w : World) (R : Bool) (hR : decide (0 ≤ t ∧ t ≤ 1000000) = R) : Calls Tryd.prog 63 #[.int .i64 t] w fun e w' => e = .returned (.bool R) ∧ w = w' := by
  by_cases h : 0 ≤ t ∧ t ≤ 1000000
  · obtain rfl : R = true := by rw [← hR]; simpa using h
    go_enter Tryd.func63, Tryd.ntmps63
    go_wp2_with fail
    refine (l00In_yes _ _ _ _ (by omega) (by omega)).mono ?_
    rintro e w1 ⟨rfl, rfl⟩
    go_wp2
    go_ret
    exact ⟨rfl, rfl⟩
  · obtain rfl : R = false := by rw [← hR]; simpa using h
    go_enter Tryd.func63, Tryd.ntmps63
    go_wp2_with fail
    refine (l00In_no _ _ _ _ (by omega)).mono ?_
    rintro e w1 ⟨rfl, rfl⟩
    go_wp2
    go_ret
    exact ⟨rfl, rfl⟩
set_option maxRecDepth 100000 in
set_option maxHeartbeats 4000000 in
theorem specFallenUntil_any (b m cap : Nat) (wd hi : Int) (lb : List Pc) (pb n : Nat) (l : List Pu) (w : World) (hm : lb.length = m) (hq : PcsAt w b 0 lb) (hbb : b < w.heap.size) (hcap : m ≤ cap) (h8 : All8 lb) (hw8 : i8 wd) (hh8 : i8 hi) (hmm : m ≤ 1048576)
    (hn : l.length = n) (hp : PusAt w pb 0 l) (hb : pb < w.heap.size) (hw : PusWf l) (hmax : n ≤ 1048576) (R : Bool) (hR : R = (boardOk wd hi lb && pushesOk lb l)) (lr : List Fl) (hlr : RunsTo R lb l lr) (hlen : lr.length ≤ 200) (t : Int) (bt : -9223372036854775808 ≤ t ∧ t ≤ 9223372036854775807) (L : List Int) (C : Int) (hQ : fallQ R t lr = (L, C)) :
    Calls Tryd.prog 27 #[.agg #[.int .i8 wd, .int .i8 hi, .slice (some ⟨b, 0, none⟩) m cap], .slice (some ⟨pb, 0, none⟩) n n, .int .i64 t] w (InPost L C w) := by
  obtain ⟨i0, hi0, hz0, hzz1, hzz2⟩ := info_parts info_i64
  have Hi := Lib.hid hi0
  have Hz0 := Lib.hid hz0
  have Hz1 := Lib.hid hzz1
  have Hz2 := Lib.hid hzz2
  have hk : Below w.heap.size w (w.alloc (.cells #[.int .i8 wd, .int .i8 hi, .slice (some ⟨b, 0, none⟩) m cap] 34)) := by repeat (first | with_reducible exact Below.refl _ _ | (with_reducible refine kSet ?_ ?hB _; case hB => (simp; try omega)) | with_reducible refine kAlloc ?_ _ | with_reducible refine Below.drew ?_ | with_reducible refine kDrewN ?_ _ | with_reducible refine kTrans ?_ (by assumption))
  have hbx := BdAt.box w wd hi (.slice (some ⟨b, 0, none⟩) m cap) 34
  have HX := Lib.hid (fun C' (hC : (R = true → C' = 0) ∧ (R = false → C' = 1)) => l02Asked_any w.heap.size 0 b 0 m cap wd hi lb pb n l _ hm hbx (hq.below hk hbb) (Nat.lt_of_lt_of_le hbb hk.size) hcap h8 hw8 hh8 hmm hn (hp.below hk hb) (Nat.lt_of_lt_of_le hb hk.size) hw hmax R hR C' hC)
  cases R with
  | false =>
    obtain ⟨rfl, rfl⟩ := pair_li (show (([] : List Int), (1 : Int)) = (L, C) from hQ)
    have H1 := Lib.hid (HX.out 1 ⟨fun h => (by cases h), fun _ => rfl⟩)
    clear hm hq hn hp hR h8 hw hbx hlr HX hk hi0 hz0 hzz1 hzz2 hQ
    go_enter Tryd.func27, Tryd.ntmps27
    go_wp2_with fail
    refine H1.out.mono ?_
    rintro e w1 ⟨rfl, hb1⟩
    have T : Below w.heap.size w w1 := by repeat (first | with_reducible exact Below.refl _ _ | (with_reducible refine kSet ?_ ?hB _; case hB => (simp; try omega)) | with_reducible refine kAlloc ?_ _ | with_reducible refine Below.drew ?_ | with_reducible refine kDrewN ?_ _ | with_reducible refine kTrans ?_ (by assumption))
    clear H1
    go_wp2
    exact bodyPost_ret (v := .tuple #[.slice (some ⟨w1.heap.size, 0, none⟩) 0 0, .int .i64 1]) (by simp [results, Tryd.results27, go_sem]) rfl ⟨_, rfl, .empty _ _ rfl, by repeat (first | with_reducible exact Below.refl _ _ | (with_reducible refine kSet ?_ ?hB _; case hB => (simp; try omega)) | with_reducible refine kAlloc ?_ _ | with_reducible refine Below.drew ?_ | with_reducible refine kDrewN ?_ _ | with_reducible refine kTrans ?_ (by assumption))⟩
  | true =>
    have H1 := Lib.hid (HX.out 0 ⟨fun _ => rfl, fun h => (by cases h)⟩)
    have HY := Lib.hid (fun w2 (h2 : Below (w.alloc (.cells #[.int .i8 wd, .int .i8 hi, .slice (some ⟨b, 0, none⟩) m cap] 34)).heap.size (w.alloc (.cells #[.int .i8 wd, .int .i8 hi, .slice (some ⟨b, 0, none⟩) m cap] 34)) w2) =>
      l02Run_to w.heap.size 0 b 0 m cap pb n wd hi lb l w2 hm (hbx.below h2 hbx.lt) ((hq.below hk hbb).below h2 (Nat.lt_of_lt_of_le hbb hk.size)) (Nat.lt_of_lt_of_le hbb (Nat.le_trans hk.size h2.size)) hcap hn ((hp.below hk hb).below h2 (Nat.lt_of_lt_of_le hb hk.size)) (Nat.lt_of_lt_of_le hb (Nat.le_trans hk.size h2.size)) hR lr hlr)
    have HQ := Lib.hid hQ
    clear hQ
    clear hm hq hn hp hR h8 hw hbx hlr HX hi0 hz0 hzz1 hzz2
    go_enter Tryd.func27, Tryd.ntmps27
    go_wp2_with fail
    refine H1.out.mono ?_
    rintro e w1 ⟨rfl, hb1⟩
    have hb01 := kTrans hk hb1
    have H2 := Lib.hid (HY.out w1 hb1)
    clear HY H1 hb1 hk
    by_cases hyes : 0 ≤ t ∧ t ≤ 1000000
    · skip
      have hL2 : idxs (fallenB t) lr 0 = L ∧ (0 : Int) = C := pair_li (by have h := HQ.out; unfold fallQ at h; rw [if_pos rfl, if_pos hyes] at h; exact h)
      obtain ⟨hL3, rfl⟩ := hL2
      have HL0 := Lib.hid hL3
      clear HQ hL3
      go_wp2_with fail
      refine (l02Tick_any t w1 true (by simpa using hyes)).mono ?_
      rintro e w1' ⟨rfl, rfl⟩
      go_wp2_with fail
      refine H2.out.mono ?_
      rintro e w2 ⟨v, rfl, hv, hb2⟩
      have hb02 := kTrans hb01 hb2
      clear H2 hb01 hb2
      cases hv with
      | empty a c h =>
        subst h
        obtain rfl : L = [] := HL0.out.symm
        clear HL0
        go_wp2
        refine wp_loop_rounds 1 ?_
        rw [rounds_succ]
        go_wp2
        exact bodyPost_ret (v := .tuple #[.slice (some ⟨w2.heap.size, 0, none⟩) 0 0, .int .i64 0]) (by simp [results, Tryd.results27, go_sem]) rfl ⟨_, rfl, .empty _ _ rfl, by repeat (first | with_reducible exact Below.refl _ _ | (with_reducible refine kSet ?_ ?hB _; case hB => (simp; try omega)) | with_reducible refine kAlloc ?_ _ | with_reducible refine Below.drew ?_ | with_reducible refine kDrewN ?_ _ | with_reducible refine kTrans ?_ (by assumption))⟩
      | mk g o c hc h1 h2 hg hf hle =>
        obtain ⟨nr, hnr⟩ : ∃ nr, lr.length = nr := ⟨_, rfl⟩
        rw [hnr] at hlen hle ⊢
        have Hnr := Lib.hid hnr
        have Hc := Lib.hid hc
        have bA : Below w2.heap.size w2 (w2.alloc (.cells #[] 2)) := by repeat (first | with_reducible exact Below.refl _ _ | (with_reducible refine kSet ?_ ?hB _; case hB => (simp; try omega)) | with_reducible refine kAlloc ?_ _ | with_reducible refine Below.drew ?_ | with_reducible refine kDrewN ?_ _ | with_reducible refine kTrans ?_ (by assumption))
        have own0 : Hid ((w2.alloc (.cells #[] 2)).ownsRow w2.heap.size 2 1 (.slice (some ⟨w2.heap.size, 0, none⟩) 0 0) ([] : List Int).length (flatIn [])) := Lib.hid (owns_new (Nat.le_refl _) (heap_alloc_new _ _))
        have HL : Hid (([] : List Int) ++ idxs (fallenB t) (lr.drop 0) ((0 : Nat) : Int) = L) := Lib.hid (by rw [List.drop_zero]; exact HL0.out)
        clear hf h1 h2 hc hnr HL0
        go_wp2
        go_loopw [10, 11] (fun out i wr => ∃ (k : Nat) (P : List Int), k ≤ nr ∧ i = .int .i64 k ∧ Hid (P ++ idxs (fallenB t) (lr.drop k) k = L) ∧ P.length ≤ k ∧ Hid (wr.ownsRow w2.heap.size 2 1 out P.length (flatIn P)) ∧ Below w2.heap.size w2 wr) (fun _ i _ => nr - (intOf i).toNat)
        case atStart => exact ⟨0, [], by omega, rfl, HL, by simp, own0, bA⟩
        case round =>
          clear HL own0 bA
          obtain ⟨k, P, hk', rfl, hfi, hpl, hown, hbr⟩ := hrel
          obtain ⟨va, vc, rfl⟩ := owns_slice hown.out
          have Hblk := Lib.hid (owns_block hown.out)
          by_cases hlt : k < nr
          · have hlk : k < lr.length := by rw [Hnr.out]; exact hlt
            obtain ⟨f0, f1, f2⟩ := (Hc.out.below hbr hg) k hlk
            have hd : lr.drop k = lr[k] :: lr.drop (k + 1) := List.drop_eq_getElem_cons hlk
            generalize lr[k] = f at f0 f1 f2 hd
            have hq := hfi.out
            rw [hd] at hq
            clear hfi hd Hc
            by_cases h0 : f.tick < 0
            · skip
              have hq2 : Hid (P ++ idxs (fallenB t) (lr.drop (k + 1)) ((k + 1 : Nat) : Int) = L) := Lib.hid (by rw [← hq, idxs_no (f := f) (by simp [fallenB]; omega), show ((k + 1 : Nat) : Int) = (k : Int) + 1 by omega])
              clear hq
              go_wp2
              exact ⟨⟨k + 1, P, by omega, by go_num, hq2, by omega, hown, hbr⟩, by simp [intOf]; omega⟩
            · skip
              by_cases h1 : f.tick ≤ t
              · skip
                have hq2 : Hid ((P ++ [(k : Int)]) ++ idxs (fallenB t) (lr.drop (k + 1)) ((k + 1 : Nat) : Int) = L) := Lib.hid (by rw [← hq, idxs_yes (f := f) (by simp [fallenB]; omega), List.append_assoc, show ((k + 1 : Nat) : Int) = (k : Int) + 1 by omega]; rfl)
                clear hq
                go_wp2_with (at_builtin; refine wpList_append_own _ rfl _ _ 45 rfl w2.heap.size 2 i0 _ 1 8 Tryd.underlying45 Hi.out Hz0.out Hz1.out Hz2.out rfl (by decide) (.slice va P.length vc) P.length (flatIn P) rfl (owns_below hown.out (by repeat (first | with_reducible exact Below.refl _ _ | (with_reducible refine kSet ?_ ?hB _; case hB => (simp; try omega)) | with_reducible refine kAlloc ?_ _ | with_reducible refine Below.drew ?_ | with_reducible refine kDrewN ?_ _ | with_reducible refine kTrans ?_ (by assumption)))) ⟨wr.heap.size, 0, none⟩ 1 1 [.int .i64 k] rfl rfl (World.news_of_block (cs := #[.int .i64 k]) (heap_alloc_new _ _)) (by simp [Value.oneCell']) ?qc4 ?qc5 ?qc6 ?_)
                case qc4 => unfold maxLen; omega
                case qc5 => omega
                case qc6 => have := hbr.size; simp; omega
                intro v6 w6 hown6 hgr hnil
                have Hown6 := Lib.hid (show w6.ownsRow w2.heap.size 2 1 v6 (P ++ [(k : Int)]).length (flatIn (P ++ [(k : Int)])) by rw [flatIn_end, List.length_append]; exact hown6)
                have T6 : Below w2.heap.size w2 w6 := grown_below (v := .slice va P.length vc) (by repeat (first | with_reducible exact Below.refl _ _ | (with_reducible refine kSet ?_ ?hB _; case hB => (simp; try omega)) | with_reducible refine kAlloc ?_ _ | with_reducible refine Below.drew ?_ | with_reducible refine kDrewN ?_ _ | with_reducible refine kTrans ?_ (by assumption))) hgr (by intro q hq; exact (Hblk.out q hq).1)
                clear hown6 hgr hnil hown
                go_wp2
                exact ⟨⟨k + 1, P ++ [(k : Int)], by omega, by go_num, hq2, by simp; omega, Hown6, T6⟩, by simp [intOf]; omega⟩
              · skip
                have hq2 : Hid (P ++ idxs (fallenB t) (lr.drop (k + 1)) ((k + 1 : Nat) : Int) = L) := Lib.hid (by rw [← hq, idxs_no (f := f) (by simp [fallenB]; omega), show ((k + 1 : Nat) : Int) = (k : Int) + 1 by omega])
                clear hq
                go_wp2
                exact ⟨⟨k + 1, P, by omega, by go_num, hq2, by omega, hown, hbr⟩, by simp [intOf]; omega⟩
          · have hPL : P = L := by have := hfi.out; rw [List.drop_of_length_le (by rw [Hnr.out]; omega)] at this; simpa [idxs] using this
            subst hPL
            have T := kTrans hb02 hbr
            have Hs := Lib.hid ((SlWIn.of_owns hown.out).mono hb02.size (Nat.le_refl _))
            clear hfi hown Hc
            go_wp2
            exact bodyPost_ret (v := .tuple #[.slice va P.length vc, .int .i64 0]) (by simp [results, Tryd.results27, go_sem]) rfl ⟨_, rfl, Hs.out, T⟩
    · skip
      have hL2 : ([] : List Int) = L ∧ (2 : Int) = C := pair_li (by have h := HQ.out; unfold fallQ at h; rw [if_pos rfl, if_neg hyes] at h; exact h)
      obtain ⟨rfl, rfl⟩ := hL2
      clear HQ
      go_wp2_with fail
      refine (l02Tick_any t w1 false (by simpa using hyes)).mono ?_
      rintro e w1' ⟨rfl, rfl⟩
      go_wp2
      exact bodyPost_ret (v := .tuple #[.slice (some ⟨w1.heap.size, 0, none⟩) 0 0, .int .i64 2]) (by simp [results, Tryd.results27, go_sem]) rfl ⟨_, rfl, .empty _ _ rfl, by repeat (first | with_reducible exact Below.refl _ _ | (with_reducible refine kSet ?_ ?hB _; case hB => (simp; try omega)) | with_reducible refine kAlloc ?_ _ | with_reducible refine Below.drew ?_ | with_reducible refine kDrewN ?_ _ | with_reducible refine kTrans ?_ (by assumption))⟩
end Go.Proofs.YtmabcfepkcpcoaaDoor
