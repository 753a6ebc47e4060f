/- PushesFor: both sides. -/
import Derived.Test.YtmabcfepkcpcoaaPi
namespace Go.Proofs.Ytmabcfepkcpcoaa
open Go.ChangeShapes Go.WideShapes Go.ChangeAt Go.RowKit Go.Joins Go.Deep
set_option linter.unusedVariables false
set_option linter.unusedSimpArgs false

def pushesQ (M O : Bool) (row : Int) (p : List Po) (t : List Int) : List Pu × Int := match M, O with | true, true => (pushFrom row p t 0, 0) | _, _ => ([], askedC M O)
theorem rowOk_parts {n : Nat} {row : Int} {t : List Int} (h : rowOk n row t = true) : 0 ≤ row ∧ row < 2 ^ n ∧ t.length = n ∧ lateAll t = true := by
  unfold rowOk at h
  simp only [Bool.and_eq_true, decide_eq_true_eq] at h
  exact ⟨h.1.1.1, h.1.1.2, h.1.2, h.2⟩
theorem pushFrom_wf (row : Int) : ∀ (l : List Po) (t : List Int) (i : Nat), PosWf l → lateAll t = true → PusWf (pushFrom row l t i)
  | [], _, _, _, _ => by intro x hx; simp [pushFrom] at hx
  | _ :: _, [], _, _, _ => by intro x hx; simp [pushFrom] at hx
  | p :: l, x :: t, i, hl, ht => by
    intro u hu
    have hx : 0 ≤ x ∧ x ≤ 100 := by simp [lateAll] at ht; exact ht.1
    have ht2 : lateAll t = true := by unfold lateAll at ht ⊢; simp only [List.all_cons, Bool.and_eq_true] at ht; exact ht.2
    have hp := hl p (List.mem_cons_self ..)
    unfold pushFrom at hu
    rw [List.mem_append] at hu
    rcases hu with hu | hu
    · split at hu
      · simp only [List.mem_cons, List.not_mem_nil, or_false] at hu
        subst hu
        refine ⟨hp.1, hp.2.1, hp.2.2, ?_⟩
        simp [Lit.wf, IntKind.min, IntKind.max, IntKind.bits, IntKind.signed]
        omega
      · simp at hu
    · exact pushFrom_wf row l t (i + 1) (fun q hq => hl q (List.mem_cons_of_mem _ hq)) ht2 u hu
theorem pushesQ_ok {M O : Bool} {row : Int} {p : List Po} {t : List Int} {L : List Pu} {C : Int} {wd hi : Int} {l : List Pc} {c : List Cl} (h : pushesQ M O row p t = (L, C)) (hM : M = machOk wd hi l p c) (hO : O = rowOk p.length row t) (hw : PosWf p) (hm : p.length ≤ 1048576) : PusWf L ∧ L.length ≤ 1048576 := by
  cases M <;> cases O <;> simp only [pushesQ, Prod.mk.injEq] at h
  · rw [← h.1]; exact ⟨by intro x hx; simp at hx, by simp⟩
  · rw [← h.1]; exact ⟨by intro x hx; simp at hx, by simp⟩
  · rw [← h.1]; exact ⟨by intro x hx; simp at hx, by simp⟩
  · have hp := rowOk_parts hO.symm
    rw [← h.1]
    exact ⟨pushFrom_wf row p t 0 hw hp.2.2.2, Nat.le_trans (pushFrom_len row p t 0) hm⟩
def PfPost (L : List Pu) (C : Int) (w : World) (e : Ending) (w' : World) : Prop := ∃ v, e = .returned (.tuple #[v, .int .i64 C]) ∧ SlWPu w.heap.size w'.heap.size w' L v ∧ Below w.heap.size w w'

set_option maxRecDepth 100000 in
set_option maxHeartbeats 8000000 in
theorem implPushesFor_any (b k q g : Nat) (wd hi row : Int) (l : List Pc) (p : List Po) (c : List Cl) (t : List Int) (w : World) (hp : PcsAt w b 0 l) (hg : PosAt w k 0 p) (hj : ClsAt w q 0 c) (ht : InsAt w g 0 t) (zb : b < w.heap.size) (zk : k < w.heap.size) (zq : q < w.heap.size) (zg : g < w.heap.size)
    (h8 : All8 l) (hw : PosWf p) (bw : i8 wd) (bh : i8 hi) (m0 : l.length ≤ 1048576) (m1 : p.length ≤ 1048576) (m2 : c.length ≤ 1048576) (m3 : t.length ≤ 1048576) (M O : Bool) (hM : M = machOk wd hi l p c) (hO : O = rowOk p.length row t) (L : List Pu) (C : Int) (hQ : pushesQ M O row p t = (L, C)) :
    Calls Try.prog 15 #[.agg #[.int .i8 wd, .int .i8 hi, .slice (some ⟨b, 0, none⟩) l.length l.length, .slice (some ⟨k, 0, none⟩) p.length p.length, .slice (some ⟨q, 0, none⟩) c.length c.length], .int .i64 row, .slice (some ⟨g, 0, none⟩) t.length t.length] w (PfPost L C w) := by
  have ka : Below w.heap.size w (w.alloc (.cells #[.int .i8 wd, .int .i8 hi, .slice (some ⟨b, 0, none⟩) l.length l.length, .slice (some ⟨k, 0, none⟩) p.length p.length, .slice (some ⟨q, 0, none⟩) c.length c.length] 38)) := by repeat (first | with_reducible exact Below.refl _ _ | (with_reducible refine kSet ?_ ?hB _; case hB => (simp; try omega)) | with_reducible refine kAlloc ?_ _ | with_reducible refine Below.drew ?_ | with_reducible refine kDrewN ?_ _ | with_reducible refine kTrans ?_ (by assumption))
  have H := Lib.hid (lateDevice_any b k q g wd hi row l p c t _ (hp.below ka zb) (hg.below ka zk) (hj.below ka zq) (ht.below ka zg) (Nat.lt_of_lt_of_le zb ka.size) (Nat.lt_of_lt_of_le zk ka.size) (Nat.lt_of_lt_of_le zq ka.size) (Nat.lt_of_lt_of_le zg ka.size) h8 hw m0 m1 m2 m3 M O hM hO)
  have HG := Lib.hid (fun W (hW : Below w.heap.size w W) => hg.below hW zk)
  have HT := Lib.hid (fun W (hW : Below w.heap.size w W) => ht.below hW zg)
  have HQ := Lib.hid hQ
  have HM := Lib.hid hM
  have HO := Lib.hid hO
  clear hp hg hj ht h8 hw bw bh hM hO hQ
  go_enter Try.func15, Try.ntmps15
  go_wp2_with fail
  refine H.out.mono ?_
  clear H
  cases hMO : (M && O) with
  | false =>
    rintro e w1 ⟨_, h1, hb1⟩
    obtain rfl := h1 hMO
    have T1 := kTrans ka hb1
    obtain ⟨rfl, rfl⟩ : L = [] ∧ C = askedC M O := by
      have h := HQ.out
      cases M <;> cases O <;> simp only [pushesQ, Prod.mk.injEq] at h <;> first | exact ⟨h.1.symm, h.2.symm⟩ | cases hMO
    obtain ⟨K, hK⟩ : ∃ K, askedC M O = K := ⟨_, rfl⟩
    have hne : (K != 0) = true := by
      rw [← hK]
      cases M <;> cases O <;> first | rfl | cases hMO
    have hne2 : ¬ K = 0 := by simpa using hne
    rw [hK]
    have HK := Lib.hid hK
    clear h1 hb1 hMO HQ hK HG HT HM HO
    go_wp2
    exact bodyPost_ret (v := .tuple #[.slice none 0 0, .int .i64 K]) (by simp [results, Try.results15, go_sem]) rfl ⟨_, by rw [HK.out], .empty _ _ rfl, by repeat (first | with_reducible exact Below.refl _ _ | (with_reducible refine kSet ?_ ?hB _; case hB => (simp; try omega)) | with_reducible refine kAlloc ?_ _ | with_reducible refine Below.drew ?_ | with_reducible refine kDrewN ?_ _ | with_reducible refine kTrans ?_ (by assumption))⟩
  | true =>
    have hM1 : M = true := by cases M <;> simp_all
    have hO1 : O = true := by cases O <;> simp_all
    subst hM1 hO1
    rintro e w1 ⟨h1, _, hb1⟩
    obtain ⟨B, gb, rfl, hmp, hc, hgb⟩ := h1 rfl rfl
    have T1 := kTrans ka hb1
    have zc := World.block_lt_of_cell? w1 _ hc
    obtain ⟨hr0, hr1, hr2, hr3⟩ := rowOk_parts HO.out.symm
    have h6 := machOk_len HM.out.symm
    have hps := pow_small h6
    have hQ2 : L = pushFrom row p t 0 ∧ C = 0 := by
      have h := HQ.out
      simp only [pushesQ, Prod.mk.injEq] at h
      exact ⟨h.1.symm, h.2.symm⟩
    obtain ⟨hL, rfl⟩ := hQ2
    obtain ⟨n, hn⟩ : ∃ n, p.length = n := ⟨_, rfl⟩
    have ks : Below w1.heap.size w1 (w1.alloc (.cells #[.int .i8 wd, .int .i8 hi, .map (some B), .int .i8 wd, .int .i8 hi, .slice (some ⟨b, 0, none⟩) l.length l.length, .slice (some ⟨k, 0, none⟩) p.length p.length, .slice (some ⟨q, 0, none⟩) c.length c.length] 68)) := by repeat (first | with_reducible exact Below.refl _ _ | (with_reducible refine kSet ?_ ?hB _; case hB => (simp; try omega)) | with_reducible refine kAlloc ?_ _ | with_reducible refine Below.drew ?_ | with_reducible refine kDrewN ?_ _ | with_reducible refine kTrans ?_ (by assumption))
    have T2 := kTrans T1 ks
    have HP := Lib.hid (pushes_any B k g gb p.length (some ⟨b, 0, none⟩) (some ⟨q, 0, none⟩) l.length c.length l.length c.length wd hi row p t _ rfl hr2 (HG.out _ T2) (HT.out _ T2) ((ks.cell (p := ⟨gb, 0, none⟩) zc).trans hc) (Nat.lt_of_lt_of_le zk T2.size) (Nat.lt_of_lt_of_le zg T2.size) h6 ⟨hr0, by omega⟩ hr3 L hL.symm)
    clear h1 hb1 hMO HQ HG HT HM HO hmp hc hr0 hr1 hr2 hr3 hps hL hn
    go_wp2_with fail
    generalize w1.alloc (.cells #[.int .i8 wd, .int .i8 hi, .map (some B), .int .i8 wd, .int .i8 hi, .slice (some ⟨b, 0, none⟩) l.length l.length, .slice (some ⟨k, 0, none⟩) p.length p.length, .slice (some ⟨q, 0, none⟩) c.length c.length] 68) = w2 at *
    refine HP.out.mono ?_
    rintro e w3 ⟨v, rfl, hv, hb3⟩
    obtain ⟨va, vc, rfl⟩ := hv.form
    have T3 := kTrans T2 hb3
    have hv2 := Lib.hid (hv.mono T2.size (Nat.le_refl _))
    clear HP hv hb3 ks
    go_wp2
    exact bodyPost_ret (v := .tuple #[.slice va L.length vc, .int .i64 0]) (by simp [results, Try.results15, go_sem]) rfl ⟨_, rfl, hv2.out, T3⟩
set_option maxRecDepth 100000 in
set_option maxHeartbeats 8000000 in
theorem specPushesFor_any (b k q g : Nat) (wd hi row : Int) (l : List Pc) (p : List Po) (c : List Cl) (t : List Int) (w : World) (hp : PcsAt w b 0 l) (hg : PosAt w k 0 p) (hj : ClsAt w q 0 c) (ht : InsAt w g 0 t) (zb : b < w.heap.size) (zk : k < w.heap.size) (zq : q < w.heap.size) (zg : g < w.heap.size)
    (h8 : All8 l) (hw : PosWf p) (bw : i8 wd) (bh : i8 hi) (m0 : l.length ≤ 1048576) (m1 : p.length ≤ 1048576) (m2 : c.length ≤ 1048576) (m3 : t.length ≤ 1048576) (M O : Bool) (hM : M = machOk wd hi l p c) (hO : O = rowOk p.length row t) (L : List Pu) (C : Int) (hQ : pushesQ M O row p t = (L, C)) :
    Calls Try.prog 13 #[.agg #[.int .i8 wd, .int .i8 hi, .slice (some ⟨b, 0, none⟩) l.length l.length, .slice (some ⟨k, 0, none⟩) p.length p.length, .slice (some ⟨q, 0, none⟩) c.length c.length], .int .i64 row, .slice (some ⟨g, 0, none⟩) t.length t.length] w (PfPost L C w) := by
  have ka : Below w.heap.size w (w.alloc (.cells #[.int .i8 wd, .int .i8 hi, .slice (some ⟨b, 0, none⟩) l.length l.length, .slice (some ⟨k, 0, none⟩) p.length p.length, .slice (some ⟨q, 0, none⟩) c.length c.length] 38)) := by repeat (first | with_reducible exact Below.refl _ _ | (with_reducible refine kSet ?_ ?hB _; case hB => (simp; try omega)) | with_reducible refine kAlloc ?_ _ | with_reducible refine Below.drew ?_ | with_reducible refine kDrewN ?_ _ | with_reducible refine kTrans ?_ (by assumption))
  have bm := McAt.box w wd hi (.slice (some ⟨b, 0, none⟩) l.length l.length) (.slice (some ⟨k, 0, none⟩) p.length p.length) (.slice (some ⟨q, 0, none⟩) c.length c.length) 38
  have H := Lib.hid (l03Asked_any w.heap.size b k q g _ _ _ _ wd hi row l p c t _ rfl rfl rfl rfl bm (hp.below ka zb) (hg.below ka zk) (hj.below ka zq) (ht.below ka zg) (Nat.lt_of_lt_of_le zb ka.size) (Nat.lt_of_lt_of_le zk ka.size) (Nat.lt_of_lt_of_le zq ka.size) (Nat.lt_of_lt_of_le zg ka.size) h8 hw bw bh m0 m1 m2 m3 M O hM hO)
  have HG := Lib.hid (fun W (hW : Below w.heap.size w W) => hg.below hW zk)
  have HT := Lib.hid (fun W (hW : Below w.heap.size w W) => ht.below hW zg)
  have BM := Lib.hid bm
  have HQ := Lib.hid hQ
  have HM := Lib.hid hM
  have HO := Lib.hid hO
  have hsz : w.heap.size < (w.alloc (.cells #[.int .i8 wd, .int .i8 hi, .slice (some ⟨b, 0, none⟩) l.length l.length, .slice (some ⟨k, 0, none⟩) p.length p.length, .slice (some ⟨q, 0, none⟩) c.length c.length] 38)).heap.size := by simp
  clear hp hg hj ht h8 hw bw bh hM hO hQ bm
  go_enter Try.func13, Try.ntmps13
  go_wp2_with fail
  refine H.out.mono ?_
  clear H
  rintro e w1 ⟨rfl, hb1⟩
  have T1 := kTrans ka hb1
  have bm1 := Lib.hid (BM.out.below hb1 hsz)
  have hz1 : w.heap.size < w1.heap.size := Nat.lt_of_lt_of_le hsz hb1.size
  clear BM hb1 ka hsz
  cases hMO : (M && O) with
  | false =>
    obtain ⟨rfl, rfl⟩ : L = [] ∧ C = askedC M O := by
      have h := HQ.out
      cases M <;> cases O <;> simp only [pushesQ, Prod.mk.injEq] at h <;> first | exact ⟨h.1.symm, h.2.symm⟩ | cases hMO
    obtain ⟨K, hK⟩ : ∃ K, askedC M O = K := ⟨_, rfl⟩
    have hne : (K != 0) = true := by
      rw [← hK]
      cases M <;> cases O <;> first | rfl | cases hMO
    have hne2 : ¬ K = 0 := by simpa using hne
    rw [hK]
    have HK := Lib.hid hK
    clear hMO HQ hK HG HT HM HO
    go_wp2
    exact bodyPost_ret (v := .tuple #[.slice (some ⟨w1.heap.size, 0, none⟩) 0 0, .int .i64 K]) (by simp [results, Try.results13, go_sem]) rfl ⟨_, by rw [HK.out], .empty _ _ rfl, by repeat (first | with_reducible exact Below.refl _ _ | (with_reducible refine kSet ?_ ?hB _; case hB => (simp; try omega)) | with_reducible refine kAlloc ?_ _ | with_reducible refine Below.drew ?_ | with_reducible refine kDrewN ?_ _ | with_reducible refine kTrans ?_ (by assumption))⟩
  | true =>
    have hM1 : M = true := by cases M <;> simp_all
    have hO1 : O = true := by cases O <;> simp_all
    subst hM1 hO1
    obtain ⟨hr0, hr1, hr2, hr3⟩ := rowOk_parts HO.out.symm
    have h6 := machOk_len HM.out.symm
    have hps := pow_small h6
    have hQ2 : L = pushFrom row p t 0 ∧ C = 0 := by
      have h := HQ.out
      simp only [pushesQ, Prod.mk.injEq] at h
      exact ⟨h.1.symm, h.2.symm⟩
    obtain ⟨hL, rfl⟩ := hQ2
    have HP0 := l03Pushes_any w.heap.size k g p.length _ _ wd hi row p t _ rfl hr2 bm1.out (HG.out _ T1) (HT.out _ T1) (Nat.lt_of_lt_of_le zk T1.size) (Nat.lt_of_lt_of_le zg T1.size) h6 ⟨hr0, by omega⟩ hr3 L hL.symm
    have hak : askedC true true = 0 := rfl
    obtain ⟨r, hr⟩ : ∃ r, t.length = r := ⟨_, rfl⟩
    rw [← hr2] at HP0
    have HP := Lib.hid HP0
    clear HP0 hMO HQ HG HT HM HO hr0 hr1 hr2 hr3 hps hL hr
    rw [hak]
    go_wp2_with fail
    refine HP.out.mono ?_
    rintro e w3 ⟨v, rfl, hv, hb3⟩
    obtain ⟨va, vc, rfl⟩ := hv.form
    have T3 := kTrans T1 hb3
    have hv2 := Lib.hid (hv.mono T1.size (Nat.le_refl _))
    clear HP hv hb3
    go_wp2
    exact bodyPost_ret (v := .tuple #[.slice va L.length vc, .int .i64 0]) (by simp [results, Try.results13, go_sem]) rfl ⟨_, rfl, hv2.out, T3⟩
end Go.Proofs.Ytmabcfepkcpcoaa
