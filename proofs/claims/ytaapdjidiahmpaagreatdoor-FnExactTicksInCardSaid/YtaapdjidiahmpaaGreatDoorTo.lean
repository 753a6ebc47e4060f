/- TicksIn, OutputsIn: both sides. -/
import Derived.Test.YtaapdjidiahmpaaGreatDoorTkL
import Derived.Test.YtaapdjidiahmpaaGreatDoorTs
namespace Go.Proofs.YtaapdjidiahmpaaGreatDoor
open Go.ChangeShapes Go.WideShapes Go.ChangeAt Go.RowKit Go.Joins Go.Deep
set_option linter.unusedVariables false
set_option linter.unusedSimpArgs false

def rowQ (M O : Bool) (T : List Int) : List Int × Int := match M, O with | true, true => (T, 0) | _, _ => ([], askedC M O)
def outQ (M O : Bool) (T : List Int) : Int × Int := match M, O with | true, true => (outsB T 0 0, 0) | _, _ => (0, askedC M O)
theorem pair_LI {a c : List Int} {b d : Int} (h : (a, b) = (c, d)) : a = c ∧ b = d := by injection h with h1 h2; exact ⟨h1, h2⟩
theorem pair_II {a c : Int} {b d : Int} (h : (a, b) = (c, d)) : a = c ∧ b = d := by injection h with h1 h2; exact ⟨h1, h2⟩
theorem rowOk_parts {n : Nat} {row : Int} {t : List Int} (h : rowOk n row t = true) : 0 ≤ row ∧ row < 2 ^ n ∧ t.length = n ∧ lateAll t = true := by
  unfold rowOk at h
  simp only [Bool.and_eq_true, decide_eq_true_eq] at h
  exact ⟨h.1.1.1, h.1.1.2, h.1.2, h.2⟩
def InPost2 (L : List Int) (C : Int) (w : World) (e : Ending) (w' : World) : Prop := ∃ v, e = .returned (.tuple #[v, .int .i64 C]) ∧ SlWIn w.heap.size w'.heap.size w' L v ∧ Below w.heap.size w w'
theorem row_pick {M O : Bool} {wd hi row : Int} {l : List Pc} {p : List Po} {c : List Cl} {t : List Int} (hM : M = machOk wd hi l p c) (hO : O = rowOk p.length row t) :
    ∃ T, (M = true → O = true → ∃ lr, RowRun wd hi row l p c t lr ∧ ticksL l lr c = T) ∧ InsWf T ∧ T.length ≤ 1048576 := by
  by_cases h : M = true ∧ O = true
  · obtain ⟨rfl, rfl⟩ := h
    obtain ⟨lr, hr⟩ := row_exists row hM.symm (rowOk_parts hO.symm).2.2.2
    refine ⟨ticksL l lr c, fun _ _ => ⟨lr, hr, rfl⟩, fun x hx => ?_, ?_⟩
    · have := hr.ticks_wf x hx
      exact wf64' (by omega)
    · rw [ticksL_length]; have := (machOk_parts hM.symm).2.1; omega
  · exact ⟨[], fun h1 h2 => absurd ⟨h1, h2⟩ h, fun x hx => by simp at hx, by simp⟩
theorem rowQ_ok {M O : Bool} {T L : List Int} {C : Int} (h : rowQ M O T = (L, C)) (hw : InsWf T) (hl : T.length ≤ 1048576) : InsWf L ∧ L.length ≤ 1048576 := by
  cases M <;> cases O <;> (have h1 := (pair_LI h).1; rw [← h1])
  · exact ⟨fun x hx => by simp at hx, by simp⟩
  · exact ⟨fun x hx => by simp at hx, by simp⟩
  · exact ⟨fun x hx => by simp at hx, by simp⟩
  · exact ⟨hw, hl⟩
set_option maxRecDepth 100000 in
set_option maxHeartbeats 8000000 in
theorem implTicksIn_any (b k q g : Nat) (wd hi row : Int) (l : List Pc) (p : List Po) (c : List Cl) (t : List Int) (w : World) (hp : PcsAt w b 0 l) (hg : PosAt w k 0 p) (hj : ClsAt w q 0 c) (ht : InsAt w g 0 t) (zb : b < w.heap.size) (zk : k < w.heap.size) (zq : q < w.heap.size) (zg : g < w.heap.size)
    (h8 : All8 l) (hw : PosWf p) (bw : i8 wd) (bh : i8 hi) (m0 : l.length ≤ 1048576) (m1 : p.length ≤ 1048576) (m2 : c.length ≤ 1048576) (m3 : t.length ≤ 1048576) (M O : Bool) (hM : M = machOk wd hi l p c) (hO : O = rowOk p.length row t) (hst : StayAt w) (T : List Int) (hT : M = true → O = true → ∃ lr, RowRun wd hi row l p c t lr ∧ ticksL l lr c = T) (L : List Int) (C : Int) (hQ : rowQ M O T = (L, C)) :
    Calls Tryz.prog 20 #[.agg #[.int .i8 wd, .int .i8 hi, .slice (some ⟨b, 0, none⟩) l.length l.length, .slice (some ⟨k, 0, none⟩) p.length p.length, .slice (some ⟨q, 0, none⟩) c.length c.length], .int .i64 row, .slice (some ⟨g, 0, none⟩) t.length t.length] w (InPost2 L C w) := by
  have ka : Below w.heap.size w (w.alloc (.cells #[.int .i8 wd, .int .i8 hi, .slice (some ⟨b, 0, none⟩) l.length l.length, .slice (some ⟨k, 0, none⟩) p.length p.length, .slice (some ⟨q, 0, none⟩) c.length c.length] 40)) := by repeat (first | with_reducible exact Below.refl _ _ | (with_reducible refine kSet ?_ ?hB _; case hB => (simp; try omega)) | with_reducible refine kAlloc ?_ _ | with_reducible refine Below.drew ?_ | with_reducible refine kDrewN ?_ _ | with_reducible refine kTrans ?_ (by assumption))
  have H := Lib.hid (lateDevice_any b k q g wd hi row l p c t _ (hp.below ka zb) (hg.below ka zk) (hj.below ka zq) (ht.below ka zg) (Nat.lt_of_lt_of_le zb ka.size) (Nat.lt_of_lt_of_le zk ka.size) (Nat.lt_of_lt_of_le zq ka.size) (Nat.lt_of_lt_of_le zg ka.size) h8 hw m0 m1 m2 m3 M O hM hO)
  have HPc := Lib.hid (fun W (hW : Below w.heap.size w W) => hp.below hW zb)
  have HCl := Lib.hid (fun W (hW : Below w.heap.size w W) => hj.below hW zq)
  have HSt := Lib.hid (fun W (hW : Below w.heap.size w W) => hst.below hW)
  have HT0 := Lib.hid hT
  have HG := Lib.hid (fun W (hW : Below w.heap.size w W) => hg.below hW zk)
  have HT := Lib.hid (fun W (hW : Below w.heap.size w W) => ht.below hW zg)
  have HQ := Lib.hid hQ
  have HM := Lib.hid hM
  have HO := Lib.hid hO
  clear hp hg hj ht h8 hw bw bh hM hO hQ hst hT
  go_enter Tryz.func20, Tryz.ntmps20
  go_wp2_with fail
  refine H.out.mono ?_
  clear H
  cases hMO : (M && O) with
  | false =>
    rintro e w1 ⟨_, h1, hb1⟩
    obtain rfl := h1 hMO
    have T1 := kTrans ka hb1
    obtain ⟨rfl, rfl⟩ : L = [] ∧ C = askedC M O := by
      have h := HQ.out
      cases M <;> cases O <;> first | (have h' := pair_LI h; exact ⟨h'.1.symm, h'.2.symm⟩) | cases hMO
    obtain ⟨K, hK⟩ : ∃ K, askedC M O = K := ⟨_, rfl⟩
    have hne : (K != 0) = true := by
      rw [← hK]
      cases M <;> cases O <;> first | rfl | cases hMO
    have hne2 : ¬ K = 0 := by simpa using hne
    rw [hK]
    have HK := Lib.hid hK
    clear h1 hb1 hMO HQ hK HG HT HM HO HPc HCl HSt HT0
    go_wp2
    exact bodyPost_ret (v := .tuple #[.slice none 0 0, .int .i64 K]) (by simp [results, Tryz.results20, go_sem]) rfl ⟨_, by rw [HK.out], .empty _ _ rfl, by repeat (first | with_reducible exact Below.refl _ _ | (with_reducible refine kSet ?_ ?hB _; case hB => (simp; try omega)) | with_reducible refine kAlloc ?_ _ | with_reducible refine Below.drew ?_ | with_reducible refine kDrewN ?_ _ | with_reducible refine kTrans ?_ (by assumption))⟩
  | true =>
    have hM1 : M = true := by cases M <;> simp_all
    have hO1 : O = true := by cases O <;> simp_all
    subst hM1 hO1
    rintro e w1 ⟨h1, _, hb1⟩
    obtain ⟨B, gb, rfl, hmp, hc, hgb⟩ := h1 rfl rfl
    have T1 := kTrans ka hb1
    have zc := World.block_lt_of_cell? w1 _ hc
    obtain ⟨hr0, hr1, hr2, hr3⟩ := rowOk_parts HO.out.symm
    have h6 := machOk_len HM.out.symm
    have hps := pow_small h6
    have hQ2 : L = T ∧ C = 0 := by
      have h := pair_LI HQ.out
      exact ⟨h.1.symm, h.2.symm⟩
    obtain ⟨hL, rfl⟩ := hQ2
    obtain ⟨lr, hrun, htk⟩ := HT0.out rfl rfl
    have hmp2 := machOk_parts HM.out.symm
    obtain ⟨n, hn⟩ : ∃ n, p.length = n := ⟨_, rfl⟩
    have ks : Below w1.heap.size w1 (w1.alloc (.cells #[.int .i8 wd, .int .i8 hi, .map (some B), .int .i8 wd, .int .i8 hi, .slice (some ⟨b, 0, none⟩) l.length l.length, .slice (some ⟨k, 0, none⟩) p.length p.length, .slice (some ⟨q, 0, none⟩) c.length c.length] 84)) := by repeat (first | with_reducible exact Below.refl _ _ | (with_reducible refine kSet ?_ ?hB _; case hB => (simp; try omega)) | with_reducible refine kAlloc ?_ _ | with_reducible refine Below.drew ?_ | with_reducible refine kDrewN ?_ _ | with_reducible refine kTrans ?_ (by assumption))
    have T2 := kTrans T1 ks
    have hdv : DvAt w1 B b k q l p c := ⟨hmp, HPc.out _ T1, HG.out _ T1, HCl.out _ T1, Nat.lt_of_lt_of_le zb T1.size, Nat.lt_of_lt_of_le zk T1.size, Nat.lt_of_lt_of_le zq T1.size, HSt.out _ T1⟩
    have HP := Lib.hid (ticksL_any gb B b k q l.length p.length c.length wd hi row l p c t _ (hdv.below ks) rfl rfl rfl hr2 (fun W hW j hj => lateTold_any gb g j t W ((kTrans ks hW).cell (p := ⟨gb, 0, none⟩) zc |>.trans hc) (HT.out _ (kTrans T2 hW)) hj (by omega)) h6 hmp2.2.1.2.2.2 ⟨hr0, by omega⟩ hr3 lr hrun T htk)
    clear h1 hb1 hMO HQ HG HT HM HO hmp hc hr0 hr1 hr2 hr3 hps hn hdv hrun htk hmp2 HPc HCl HSt HT0
    go_wp2_with fail
    generalize w1.alloc (.cells #[.int .i8 wd, .int .i8 hi, .map (some B), .int .i8 wd, .int .i8 hi, .slice (some ⟨b, 0, none⟩) l.length l.length, .slice (some ⟨k, 0, none⟩) p.length p.length, .slice (some ⟨q, 0, none⟩) c.length c.length] 84) = w2 at *
    refine HP.out.mono ?_
    rintro e w3 ⟨v, rfl, hv, hb3⟩
    obtain ⟨va, vc, rfl⟩ := hv.form
    have T3 := kTrans T2 hb3
    have hv2 := Lib.hid (hv.mono T2.size (Nat.le_refl _))
    subst hL
    clear HP hv hb3 ks
    go_wp2
    exact bodyPost_ret (v := .tuple #[.slice va L.length vc, .int .i64 0]) (by simp [results, Tryz.results20, go_sem]) rfl ⟨_, rfl, hv2.out, T3⟩
set_option maxRecDepth 100000 in
set_option maxHeartbeats 8000000 in
theorem specTicksIn_any (b k q g : Nat) (wd hi row : Int) (l : List Pc) (p : List Po) (c : List Cl) (t : List Int) (w : World) (hp : PcsAt w b 0 l) (hg : PosAt w k 0 p) (hj : ClsAt w q 0 c) (ht : InsAt w g 0 t) (zb : b < w.heap.size) (zk : k < w.heap.size) (zq : q < w.heap.size) (zg : g < w.heap.size)
    (h8 : All8 l) (hw : PosWf p) (bw : i8 wd) (bh : i8 hi) (m0 : l.length ≤ 1048576) (m1 : p.length ≤ 1048576) (m2 : c.length ≤ 1048576) (m3 : t.length ≤ 1048576) (M O : Bool) (hM : M = machOk wd hi l p c) (hO : O = rowOk p.length row t) (T : List Int) (hT : M = true → O = true → ∃ lr, RowRun wd hi row l p c t lr ∧ ticksL l lr c = T) (L : List Int) (C : Int) (hQ : rowQ M O T = (L, C)) :
    Calls Tryz.prog 19 #[.agg #[.int .i8 wd, .int .i8 hi, .slice (some ⟨b, 0, none⟩) l.length l.length, .slice (some ⟨k, 0, none⟩) p.length p.length, .slice (some ⟨q, 0, none⟩) c.length c.length], .int .i64 row, .slice (some ⟨g, 0, none⟩) t.length t.length] w (InPost2 L C w) := by
  have ka : Below w.heap.size w (w.alloc (.cells #[.int .i8 wd, .int .i8 hi, .slice (some ⟨b, 0, none⟩) l.length l.length, .slice (some ⟨k, 0, none⟩) p.length p.length, .slice (some ⟨q, 0, none⟩) c.length c.length] 40)) := by repeat (first | with_reducible exact Below.refl _ _ | (with_reducible refine kSet ?_ ?hB _; case hB => (simp; try omega)) | with_reducible refine kAlloc ?_ _ | with_reducible refine Below.drew ?_ | with_reducible refine kDrewN ?_ _ | with_reducible refine kTrans ?_ (by assumption))
  have bm := McAt.box w wd hi (.slice (some ⟨b, 0, none⟩) l.length l.length) (.slice (some ⟨k, 0, none⟩) p.length p.length) (.slice (some ⟨q, 0, none⟩) c.length c.length) 40
  have H := Lib.hid (l03Asked_any w.heap.size b k q g _ _ _ _ wd hi row l p c t _ rfl rfl rfl rfl bm (hp.below ka zb) (hg.below ka zk) (hj.below ka zq) (ht.below ka zg) (Nat.lt_of_lt_of_le zb ka.size) (Nat.lt_of_lt_of_le zk ka.size) (Nat.lt_of_lt_of_le zq ka.size) (Nat.lt_of_lt_of_le zg ka.size) h8 hw bw bh m0 m1 m2 m3 M O hM hO)
  have HPc := Lib.hid (fun W (hW : Below w.heap.size w W) => hp.below hW zb)
  have HCl := Lib.hid (fun W (hW : Below w.heap.size w W) => hj.below hW zq)
  have HT0 := Lib.hid hT
  have HG := Lib.hid (fun W (hW : Below w.heap.size w W) => hg.below hW zk)
  have HT := Lib.hid (fun W (hW : Below w.heap.size w W) => ht.below hW zg)
  have BM := Lib.hid bm
  have HQ := Lib.hid hQ
  have HM := Lib.hid hM
  have HO := Lib.hid hO
  have hsz : w.heap.size < (w.alloc (.cells #[.int .i8 wd, .int .i8 hi, .slice (some ⟨b, 0, none⟩) l.length l.length, .slice (some ⟨k, 0, none⟩) p.length p.length, .slice (some ⟨q, 0, none⟩) c.length c.length] 40)).heap.size := by simp
  clear hp hg hj ht h8 hw bw bh hM hO hQ bm hT
  go_enter Tryz.func19, Tryz.ntmps19
  go_wp2_with fail
  refine H.out.mono ?_
  clear H
  rintro e w1 ⟨rfl, hb1⟩
  have T1 := kTrans ka hb1
  have bm1 := Lib.hid (BM.out.below hb1 hsz)
  have hz1 : w.heap.size < w1.heap.size := Nat.lt_of_lt_of_le hsz hb1.size
  clear BM hb1 ka hsz
  cases hMO : (M && O) with
  | false =>
    obtain ⟨rfl, rfl⟩ : L = [] ∧ C = askedC M O := by
      have h := HQ.out
      cases M <;> cases O <;> first | (have h' := pair_LI h; exact ⟨h'.1.symm, h'.2.symm⟩) | cases hMO
    obtain ⟨K, hK⟩ : ∃ K, askedC M O = K := ⟨_, rfl⟩
    have hne : (K != 0) = true := by
      rw [← hK]
      cases M <;> cases O <;> first | rfl | cases hMO
    have hne2 : ¬ K = 0 := by simpa using hne
    rw [hK]
    have HK := Lib.hid hK
    clear hMO HQ hK HG HT HM HO HPc HCl HT0
    go_wp2
    exact bodyPost_ret (v := .tuple #[.slice (some ⟨w1.heap.size, 0, none⟩) 0 0, .int .i64 K]) (by simp [results, Tryz.results19, go_sem]) rfl ⟨_, by rw [HK.out], .empty _ _ rfl, by repeat (first | with_reducible exact Below.refl _ _ | (with_reducible refine kSet ?_ ?hB _; case hB => (simp; try omega)) | with_reducible refine kAlloc ?_ _ | with_reducible refine Below.drew ?_ | with_reducible refine kDrewN ?_ _ | with_reducible refine kTrans ?_ (by assumption))⟩
  | true =>
    have hM1 : M = true := by cases M <;> simp_all
    have hO1 : O = true := by cases O <;> simp_all
    subst hM1 hO1
    obtain ⟨hr0, hr1, hr2, hr3⟩ := rowOk_parts HO.out.symm
    have h6 := machOk_len HM.out.symm
    have hps := pow_small h6
    have hQ2 : L = T ∧ C = 0 := by
      have h := pair_LI HQ.out
      exact ⟨h.1.symm, h.2.symm⟩
    obtain ⟨hL, rfl⟩ := hQ2
    obtain ⟨lr, hrun, htk⟩ := HT0.out rfl rfl
    have hmp2 := machOk_parts HM.out.symm
    have HP0 := l03Ticks_any w.heap.size b k q g l.length p.length c.length wd hi row l p c t _ bm1.out (HPc.out _ T1) (HG.out _ T1) (HCl.out _ T1) (HT.out _ T1) (Nat.lt_of_lt_of_le zb T1.size) (Nat.lt_of_lt_of_le zk T1.size) (Nat.lt_of_lt_of_le zq T1.size) (Nat.lt_of_lt_of_le zg T1.size) rfl rfl rfl hr2 h6 hmp2.2.1.2.2.2 ⟨hr0, by omega⟩ hr3 lr hrun T htk
    have hak : askedC true true = 0 := rfl
    obtain ⟨r, hr⟩ : ∃ r, t.length = r := ⟨_, rfl⟩
    rw [← hr2] at HP0
    have HP := Lib.hid HP0
    clear HP0 hMO HQ HG HT HM HO hr0 hr1 hr2 hr3 hps hr hrun htk hmp2 HPc HCl HT0
    rw [hak]
    go_wp2_with fail
    refine HP.out.mono ?_
    rintro e w3 ⟨v, rfl, hv, hb3⟩
    obtain ⟨va, vc, rfl⟩ := hv.form
    have T3 := kTrans T1 hb3
    have hv2 := Lib.hid (hv.mono T1.size (Nat.le_refl _))
    subst hL
    clear HP hv hb3
    go_wp2
    exact bodyPost_ret (v := .tuple #[.slice va L.length vc, .int .i64 0]) (by simp [results, Tryz.results19, go_sem]) rfl ⟨_, rfl, hv2.out, T3⟩
set_option maxRecDepth 100000 in
set_option maxHeartbeats 8000000 in
theorem implOutputsIn_any (b k q g : Nat) (wd hi row : Int) (l : List Pc) (p : List Po) (c : List Cl) (t : List Int) (w : World) (hp : PcsAt w b 0 l) (hg : PosAt w k 0 p) (hj : ClsAt w q 0 c) (ht : InsAt w g 0 t) (zb : b < w.heap.size) (zk : k < w.heap.size) (zq : q < w.heap.size) (zg : g < w.heap.size)
    (h8 : All8 l) (hw : PosWf p) (bw : i8 wd) (bh : i8 hi) (m0 : l.length ≤ 1048576) (m1 : p.length ≤ 1048576) (m2 : c.length ≤ 1048576) (m3 : t.length ≤ 1048576) (M O : Bool) (hM : M = machOk wd hi l p c) (hO : O = rowOk p.length row t) (hst : StayAt w) (T : List Int) (hT : M = true → O = true → ∃ lr, RowRun wd hi row l p c t lr ∧ ticksL l lr c = T) (N : Int) (C : Int) (hQ : outQ M O T = (N, C)) :
    Calls Tryz.prog 16 #[.agg #[.int .i8 wd, .int .i8 hi, .slice (some ⟨b, 0, none⟩) l.length l.length, .slice (some ⟨k, 0, none⟩) p.length p.length, .slice (some ⟨q, 0, none⟩) c.length c.length], .int .i64 row, .slice (some ⟨g, 0, none⟩) t.length t.length] w fun e w' => e = .returned (.tuple #[.int .i64 N, .int .i64 C]) ∧ Below w.heap.size w w' := by
  have ka : Below w.heap.size w (w.alloc (.cells #[.int .i8 wd, .int .i8 hi, .slice (some ⟨b, 0, none⟩) l.length l.length, .slice (some ⟨k, 0, none⟩) p.length p.length, .slice (some ⟨q, 0, none⟩) c.length c.length] 40)) := by repeat (first | with_reducible exact Below.refl _ _ | (with_reducible refine kSet ?_ ?hB _; case hB => (simp; try omega)) | with_reducible refine kAlloc ?_ _ | with_reducible refine Below.drew ?_ | with_reducible refine kDrewN ?_ _ | with_reducible refine kTrans ?_ (by assumption))
  have H := Lib.hid (lateDevice_any b k q g wd hi row l p c t _ (hp.below ka zb) (hg.below ka zk) (hj.below ka zq) (ht.below ka zg) (Nat.lt_of_lt_of_le zb ka.size) (Nat.lt_of_lt_of_le zk ka.size) (Nat.lt_of_lt_of_le zq ka.size) (Nat.lt_of_lt_of_le zg ka.size) h8 hw m0 m1 m2 m3 M O hM hO)
  have HPc := Lib.hid (fun W (hW : Below w.heap.size w W) => hp.below hW zb)
  have HCl := Lib.hid (fun W (hW : Below w.heap.size w W) => hj.below hW zq)
  have HSt := Lib.hid (fun W (hW : Below w.heap.size w W) => hst.below hW)
  have HT0 := Lib.hid hT
  have HG := Lib.hid (fun W (hW : Below w.heap.size w W) => hg.below hW zk)
  have HT := Lib.hid (fun W (hW : Below w.heap.size w W) => ht.below hW zg)
  have HQ := Lib.hid hQ
  have HM := Lib.hid hM
  have HO := Lib.hid hO
  clear hp hg hj ht h8 hw bw bh hM hO hQ hst hT
  go_enter Tryz.func16, Tryz.ntmps16
  go_wp2_with fail
  refine H.out.mono ?_
  clear H
  cases hMO : (M && O) with
  | false =>
    rintro e w1 ⟨_, h1, hb1⟩
    obtain rfl := h1 hMO
    have T1 := kTrans ka hb1
    obtain ⟨rfl, rfl⟩ : N = 0 ∧ C = askedC M O := by
      have h := HQ.out
      cases M <;> cases O <;> first | (have h' := pair_II h; exact ⟨h'.1.symm, h'.2.symm⟩) | cases hMO
    obtain ⟨K, hK⟩ : ∃ K, askedC M O = K := ⟨_, rfl⟩
    have hne : (K != 0) = true := by
      rw [← hK]
      cases M <;> cases O <;> first | rfl | cases hMO
    have hne2 : ¬ K = 0 := by simpa using hne
    rw [hK]
    have HK := Lib.hid hK
    clear h1 hb1 hMO HQ hK HG HT HM HO HPc HCl HSt HT0
    go_wp2
    exact bodyPost_ret (v := .tuple #[.int .i64 0, .int .i64 K]) (by simp [results, Tryz.results16, go_sem]) rfl ⟨by rw [HK.out], by repeat (first | with_reducible exact Below.refl _ _ | (with_reducible refine kSet ?_ ?hB _; case hB => (simp; try omega)) | with_reducible refine kAlloc ?_ _ | with_reducible refine Below.drew ?_ | with_reducible refine kDrewN ?_ _ | with_reducible refine kTrans ?_ (by assumption))⟩
  | true =>
    have hM1 : M = true := by cases M <;> simp_all
    have hO1 : O = true := by cases O <;> simp_all
    subst hM1 hO1
    rintro e w1 ⟨h1, _, hb1⟩
    obtain ⟨B, gb, rfl, hmp, hc, hgb⟩ := h1 rfl rfl
    have T1 := kTrans ka hb1
    have zc := World.block_lt_of_cell? w1 _ hc
    obtain ⟨hr0, hr1, hr2, hr3⟩ := rowOk_parts HO.out.symm
    have h6 := machOk_len HM.out.symm
    have hps := pow_small h6
    have hQ2 : N = outsB T 0 0 ∧ C = 0 := by
      have h := pair_II HQ.out
      exact ⟨h.1.symm, h.2.symm⟩
    obtain ⟨hL, rfl⟩ := hQ2
    obtain ⟨lr, hrun, htk⟩ := HT0.out rfl rfl
    have hmp2 := machOk_parts HM.out.symm
    obtain ⟨n, hn⟩ : ∃ n, p.length = n := ⟨_, rfl⟩
    have ks : Below w1.heap.size w1 (w1.alloc (.cells #[.int .i8 wd, .int .i8 hi, .map (some B), .int .i8 wd, .int .i8 hi, .slice (some ⟨b, 0, none⟩) l.length l.length, .slice (some ⟨k, 0, none⟩) p.length p.length, .slice (some ⟨q, 0, none⟩) c.length c.length] 84)) := by repeat (first | with_reducible exact Below.refl _ _ | (with_reducible refine kSet ?_ ?hB _; case hB => (simp; try omega)) | with_reducible refine kAlloc ?_ _ | with_reducible refine Below.drew ?_ | with_reducible refine kDrewN ?_ _ | with_reducible refine kTrans ?_ (by assumption))
    have T2 := kTrans T1 ks
    have hdv : DvAt w1 B b k q l p c := ⟨hmp, HPc.out _ T1, HG.out _ T1, HCl.out _ T1, Nat.lt_of_lt_of_le zb T1.size, Nat.lt_of_lt_of_le zk T1.size, Nat.lt_of_lt_of_le zq T1.size, HSt.out _ T1⟩
    have HP := Lib.hid (outputsL_any gb B b k q l.length p.length c.length wd hi row l p c t _ (hdv.below ks) rfl rfl rfl hr2 (fun W hW j hj => lateTold_any gb g j t W ((kTrans ks hW).cell (p := ⟨gb, 0, none⟩) zc |>.trans hc) (HT.out _ (kTrans T2 hW)) hj (by omega)) h6 hmp2.2.1.2.2.2 ⟨hr0, by omega⟩ hr3 lr hrun T htk N hL.symm)
    clear h1 hb1 hMO HQ HG HT HM HO hmp hc hr0 hr1 hr2 hr3 hps hn hdv hrun htk hmp2 HPc HCl HSt HT0 hL
    go_wp2_with fail
    generalize w1.alloc (.cells #[.int .i8 wd, .int .i8 hi, .map (some B), .int .i8 wd, .int .i8 hi, .slice (some ⟨b, 0, none⟩) l.length l.length, .slice (some ⟨k, 0, none⟩) p.length p.length, .slice (some ⟨q, 0, none⟩) c.length c.length] 84) = w2 at *
    refine HP.out.mono ?_
    rintro e w3 ⟨rfl, hb3⟩
    have T3 := kTrans T2 hb3
    clear HP hb3 ks
    go_wp2
    exact bodyPost_ret (v := .tuple #[.int .i64 N, .int .i64 0]) (by simp [results, Tryz.results16, go_sem]) rfl ⟨rfl, T3⟩
set_option maxRecDepth 100000 in
set_option maxHeartbeats 8000000 in
theorem specOutputsIn_any (b k q g : Nat) (wd hi row : Int) (l : List Pc) (p : List Po) (c : List Cl) (t : List Int) (w : World) (hp : PcsAt w b 0 l) (hg : PosAt w k 0 p) (hj : ClsAt w q 0 c) (ht : InsAt w g 0 t) (zb : b < w.heap.size) (zk : k < w.heap.size) (zq : q < w.heap.size) (zg : g < w.heap.size)
    (h8 : All8 l) (hw : PosWf p) (bw : i8 wd) (bh : i8 hi) (m0 : l.length ≤ 1048576) (m1 : p.length ≤ 1048576) (m2 : c.length ≤ 1048576) (m3 : t.length ≤ 1048576) (M O : Bool) (hM : M = machOk wd hi l p c) (hO : O = rowOk p.length row t) (T : List Int) (hT : M = true → O = true → ∃ lr, RowRun wd hi row l p c t lr ∧ ticksL l lr c = T) (N : Int) (C : Int) (hQ : outQ M O T = (N, C)) :
    Calls Tryz.prog 13 #[.agg #[.int .i8 wd, .int .i8 hi, .slice (some ⟨b, 0, none⟩) l.length l.length, .slice (some ⟨k, 0, none⟩) p.length p.length, .slice (some ⟨q, 0, none⟩) c.length c.length], .int .i64 row, .slice (some ⟨g, 0, none⟩) t.length t.length] w fun e w' => e = .returned (.tuple #[.int .i64 N, .int .i64 C]) ∧ Below w.heap.size w w' := by
  have ka : Below w.heap.size w (w.alloc (.cells #[.int .i8 wd, .int .i8 hi, .slice (some ⟨b, 0, none⟩) l.length l.length, .slice (some ⟨k, 0, none⟩) p.length p.length, .slice (some ⟨q, 0, none⟩) c.length c.length] 40)) := by repeat (first | with_reducible exact Below.refl _ _ | (with_reducible refine kSet ?_ ?hB _; case hB => (simp; try omega)) | with_reducible refine kAlloc ?_ _ | with_reducible refine Below.drew ?_ | with_reducible refine kDrewN ?_ _ | with_reducible refine kTrans ?_ (by assumption))
  have bm := McAt.box w wd hi (.slice (some ⟨b, 0, none⟩) l.length l.length) (.slice (some ⟨k, 0, none⟩) p.length p.length) (.slice (some ⟨q, 0, none⟩) c.length c.length) 40
  have H := Lib.hid (l03Asked_any w.heap.size b k q g _ _ _ _ wd hi row l p c t _ rfl rfl rfl rfl bm (hp.below ka zb) (hg.below ka zk) (hj.below ka zq) (ht.below ka zg) (Nat.lt_of_lt_of_le zb ka.size) (Nat.lt_of_lt_of_le zk ka.size) (Nat.lt_of_lt_of_le zq ka.size) (Nat.lt_of_lt_of_le zg ka.size) h8 hw bw bh m0 m1 m2 m3 M O hM hO)
  have HPc := Lib.hid (fun W (hW : Below w.heap.size w W) => hp.below hW zb)
  have HCl := Lib.hid (fun W (hW : Below w.heap.size w W) => hj.below hW zq)
  have HT0 := Lib.hid hT
  have HG := Lib.hid (fun W (hW : Below w.heap.size w W) => hg.below hW zk)
  have HT := Lib.hid (fun W (hW : Below w.heap.size w W) => ht.below hW zg)
  have BM := Lib.hid bm
  have HQ := Lib.hid hQ
  have HM := Lib.hid hM
  have HO := Lib.hid hO
  have hsz : w.heap.size < (w.alloc (.cells #[.int .i8 wd, .int .i8 hi, .slice (some ⟨b, 0, none⟩) l.length l.length, .slice (some ⟨k, 0, none⟩) p.length p.length, .slice (some ⟨q, 0, none⟩) c.length c.length] 40)).heap.size := by simp
  clear hp hg hj ht h8 hw bw bh hM hO hQ bm hT
  go_enter Tryz.func13, Tryz.ntmps13
  go_wp2_with fail
  refine H.out.mono ?_
  clear H
  rintro e w1 ⟨rfl, hb1⟩
  have T1 := kTrans ka hb1
  have bm1 := Lib.hid (BM.out.below hb1 hsz)
  have hz1 : w.heap.size < w1.heap.size := Nat.lt_of_lt_of_le hsz hb1.size
  clear BM hb1 ka hsz
  cases hMO : (M && O) with
  | false =>
    obtain ⟨rfl, rfl⟩ : N = 0 ∧ C = askedC M O := by
      have h := HQ.out
      cases M <;> cases O <;> first | (have h' := pair_II h; exact ⟨h'.1.symm, h'.2.symm⟩) | cases hMO
    obtain ⟨K, hK⟩ : ∃ K, askedC M O = K := ⟨_, rfl⟩
    have hne : (K != 0) = true := by
      rw [← hK]
      cases M <;> cases O <;> first | rfl | cases hMO
    have hne2 : ¬ K = 0 := by simpa using hne
    rw [hK]
    have HK := Lib.hid hK
    clear hMO HQ hK HG HT HM HO HPc HCl HT0
    go_wp2
    exact bodyPost_ret (v := .tuple #[.int .i64 0, .int .i64 K]) (by simp [results, Tryz.results13, go_sem]) rfl ⟨by rw [HK.out], by repeat (first | with_reducible exact Below.refl _ _ | (with_reducible refine kSet ?_ ?hB _; case hB => (simp; try omega)) | with_reducible refine kAlloc ?_ _ | with_reducible refine Below.drew ?_ | with_reducible refine kDrewN ?_ _ | with_reducible refine kTrans ?_ (by assumption))⟩
  | true =>
    have hM1 : M = true := by cases M <;> simp_all
    have hO1 : O = true := by cases O <;> simp_all
    subst hM1 hO1
    obtain ⟨hr0, hr1, hr2, hr3⟩ := rowOk_parts HO.out.symm
    have h6 := machOk_len HM.out.symm
    have hps := pow_small h6
    have hQ2 : N = outsB T 0 0 ∧ C = 0 := by
      have h := pair_II HQ.out
      exact ⟨h.1.symm, h.2.symm⟩
    obtain ⟨hL, rfl⟩ := hQ2
    obtain ⟨lr, hrun, htk⟩ := HT0.out rfl rfl
    have hmp2 := machOk_parts HM.out.symm
    have HP0 := l03Outputs_any w.heap.size b k q g l.length p.length c.length wd hi row l p c t _ bm1.out (HPc.out _ T1) (HG.out _ T1) (HCl.out _ T1) (HT.out _ T1) (Nat.lt_of_lt_of_le zb T1.size) (Nat.lt_of_lt_of_le zk T1.size) (Nat.lt_of_lt_of_le zq T1.size) (Nat.lt_of_lt_of_le zg T1.size) rfl rfl rfl hr2 h6 hmp2.2.1.2.2.2 ⟨hr0, by omega⟩ hr3 lr hrun T htk N hL.symm
    have hak : askedC true true = 0 := rfl
    obtain ⟨r, hr⟩ : ∃ r, t.length = r := ⟨_, rfl⟩
    rw [← hr2] at HP0
    have HP := Lib.hid HP0
    clear HP0 hMO HQ HG HT HM HO hr0 hr1 hr2 hr3 hps hr hrun htk hmp2 HPc HCl HT0 hL
    rw [hak]
    go_wp2_with fail
    refine HP.out.mono ?_
    rintro e w3 ⟨rfl, hb3⟩
    have T3 := kTrans T1 hb3
    clear HP hb3
    go_wp2
    exact bodyPost_ret (v := .tuple #[.int .i64 N, .int .i64 0]) (by simp [results, Tryz.results13, go_sem]) rfl ⟨rfl, T3⟩
end Go.Proofs.YtaapdjidiahmpaaGreatDoor
