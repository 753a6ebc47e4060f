/- The ticks and the outputs of a row: the model. -/
import Derived.Test.YthohngkdfhpieaaGreatDoorG18
import Derived.Test.YthohngkdfhpieaaGreatDoorIl
namespace Go.Proofs.YthohngkdfhpieaaGreatDoor
open Go.ChangeShapes Go.WideShapes Go.ChangeAt Go.RowKit Go.Joins Go.Deep
set_option linter.unusedVariables false
set_option linter.unusedSimpArgs false

theorem nilI_owns {w : World} {base : Nat} {e : TypeId} : w.ownsRow base e 1 (.slice none 0 0) 0 (flatIn []) := ⟨by simp [flatIn], .inl ⟨rfl, rfl⟩⟩
theorem ticksL_drop (lb : List Pc) (lr : List Fl) (c : List Cl) (j : Nat) (h : j < c.length) : ticksL lb lr (c.drop j) = tickAt lb lr c[j] :: ticksL lb lr (c.drop (j + 1)) := by rw [List.drop_eq_getElem_cons h]; rfl
set_option maxRecDepth 100000 in
set_option maxHeartbeats 8000000 in
theorem l03PushesO_any (bb k g n : Nat) (v0 v2 : Value) (wd hi row : Int) (p : List Po) (t : List Int) (w : World) (hn1 : p.length = n) (hr : t.length = n) (hm : McAt w bb wd hi v0 (.slice (some ⟨k, 0, none⟩) n n) v2) (hg : PosAt w k 0 p) (ht : InsAt w g 0 t) (zk : k < w.heap.size) (zg : g < w.heap.size)
    (h6 : n ≤ 6) (hrow : 0 ≤ row ∧ row ≤ 64) (hl : lateAll t = true) (L : List Pu) (hL : pushFrom row p t 0 = L) :
    Calls Tryz.prog 34 #[.pointer (some ⟨bb, 0, none⟩), .int .i64 row, .slice (some ⟨g, 0, none⟩) n n] w fun e w' => ∃ v, e = .returned v ∧ w'.ownsRow w.heap.size 140 4 v L.length (flatPu L) ∧ v ≠ .slice none 0 0 ∧ Below w.heap.size w w' := by
  have lbb := hm.lt
  have HM := Lib.hid (fun W (hW : Below w.heap.size w W) => hm.below hW lbb)
  have HG := Lib.hid (fun W (hW : Below w.heap.size w W) => hg.below hW zk)
  have HT := Lib.hid (fun W (hW : Below w.heap.size w W) => ht.below hW zg)
  have Hr := Lib.hid hr
  have Hn1 := Lib.hid hn1
  have HL := Lib.hid hl
  have HF : Hid ([] ++ pushFrom row (p.drop 0) (t.drop 0) 0 = L) := Lib.hid (by simpa using hL)
  obtain ⟨i0, hi0, hz0, hzz1, hzz2⟩ := info_parts info_PuP
  have Hi := Lib.hid hi0
  have Hz0 := Lib.hid hz0
  have Hz1 := Lib.hid hzz1
  have Hz2 := Lib.hid hzz2
  have own0 : Hid ((w.alloc (.cells #[] 140)).ownsRow w.heap.size 140 4 (.slice (some ⟨w.heap.size, 0, none⟩) 0 0) ([] : List Pu).length (flatPu [])) := Lib.hid (owns_new (Nat.le_refl _) (heap_alloc_new _ _))
  have hk0 : Below w.heap.size w (w.alloc (.cells #[] 140)) := by repeat (first | with_reducible exact Below.refl _ _ | (with_reducible refine kSet ?_ ?hB _; case hB => (simp; try omega)) | with_reducible refine kAlloc ?_ _ | with_reducible refine Below.drew ?_ | with_reducible refine kDrewN ?_ _ | with_reducible refine kTrans ?_ (by assumption))
  clear hm hg ht hr hn1 hl hL hi0 hz0 hzz1 hzz2
  go_enter Tryz.func34, Tryz.ntmps34
  go_wp2
  go_loopw [7, 8] (fun out i wr => ∃ (j : Nat) (P : List Pu), j ≤ n ∧ i = .int .i64 j ∧ P.length ≤ j ∧ Hid (P ++ pushFrom row (p.drop j) (t.drop j) j = L) ∧ Hid (wr.ownsRow w.heap.size 140 4 out P.length (flatPu P)) ∧ Hid (out ≠ .slice none 0 0) ∧ Below w.heap.size w wr) (fun _ i _ => n - (intOf i).toNat)
  case atStart => exact ⟨0, [], by omega, rfl, by simp, HF, own0, Lib.hid (by simp), hk0⟩
  case round =>
    clear HF own0 hk0
    obtain ⟨j, P, hj, rfl, hPl, hf, hown, hnn, hbr⟩ := hrel
    obtain ⟨va, vc, rfl⟩ := owns_slice hown.out
    obtain ⟨x0, x1, x2, x3, x4⟩ := HM.out wr hbr
    by_cases hlt : j < n
    · have hlk : j < p.length := by rw [Hn1.out]; exact hlt
      have hlt2 : j < t.length := by rw [Hr.out]; exact hlt
      have hpa := (HG.out wr hbr) j hlk
      have hta := (HT.out wr hbr) j hlt2
      have hla := lateAll_get HL.out hlt2
      have hd : p.drop j = p[j] :: p.drop (j + 1) := List.drop_eq_getElem_cons hlk
      have hd2 : t.drop j = t[j] :: t.drop (j + 1) := List.drop_eq_getElem_cons hlt2
      have hel : ∀ W, Below w.heap.size w W → PoAt W k (0 + j * 3) p[j] ∧ W.cell? ⟨g, 0 + j, none⟩ = some (.int .i64 t[j]) := fun W hW => ⟨(HG.out W hW) j hlk, (HT.out W hW) j hlt2⟩
      generalize p[j] = a at hpa hd hel
      generalize t[j] = x at hta hd2 hla hel
      have HEL := Lib.hid hel
      clear hel
      have hq := hf.out
      rw [hd, hd2] at hq
      simp only [Nat.zero_add] at hta
      obtain ⟨a0, a1, a2⟩ := hpa
      simp only [Nat.zero_add] at a0 a1 a2
      have hju : IntKind.u64.wrap (j : Int) = j := IntWalk.u64_in _ (by omega)
      have hxw : IntKind.i16.wrap x = x := IntWalk.i16_in _ (by omega)
      have Hblk := Lib.hid (owns_block hown.out)
      have kb := Nat.lt_of_lt_of_le lbb hbr.size
      have kk := Nat.lt_of_lt_of_le zk hbr.size
      have kg := Nat.lt_of_lt_of_le zg hbr.size
      clear hd hd2 hf
      cases hb : bitB row j with
      | false =>
        have hR2 : Hid (P ++ pushFrom row (p.drop (j + 1)) (t.drop (j + 1)) (j + 1) = L) := Lib.hid (by rw [← hq]; simp [pushFrom, hb])
        have hb2 : (Go.bits .and .i64 (row / 2 ^ j) 1 == 1) = false := hb
        clear hq hb
        go_wp2
        exact ⟨⟨j + 1, P, by omega, by go_num, by omega, hR2, hown, hnn, hbr⟩, by simp [intOf]; omega⟩
      | true =>
        have hR2 : Hid ((P ++ [⟨a.x, a.y, a.side, x⟩]) ++ pushFrom row (p.drop (j + 1)) (t.drop (j + 1)) (j + 1) = L) := Lib.hid (by rw [← hq]; simp [pushFrom, hb])
        have hb2 : (Go.bits .and .i64 (row / 2 ^ j) 1 == 1) = true := hb
        clear hq hb
        go_wp2_with fail
        go_region_held_law (fun w' => w'.cell? ⟨bb, 3, none⟩ = some (.slice (some ⟨k, 0, none⟩) n n) ∧ w'.cell? ⟨k, j * 3, none⟩ = some (.int .i8 a.x) ∧ w'.cell? ⟨k, j * 3 + 1, none⟩ = some (.int .i8 a.y) ∧ w'.cell? ⟨k, j * 3 + 2, none⟩ = some (.int .i8 a.side) ∧ w'.cell? ⟨g, j, none⟩ = some (.int .i64 x)) (first | exact ⟨x3, a0, a1, a2, hta⟩ | exact ⟨(World.cell?_alloc_lt _ _ _ kb).trans x3, (World.cell?_alloc_lt _ _ _ kk).trans a0, (World.cell?_alloc_lt _ _ _ kk).trans a1, (World.cell?_alloc_lt _ _ _ kk).trans a2, (World.cell?_alloc_lt _ _ _ kg).trans hta⟩ | go_keep)
          (first
          | (refine step_append_own rfl _ _ 76 rfl w.heap.size 140 i0 _ 4 6 Tryz.underlying76 Hi.out Hz0.out Hz1.out Hz2.out rfl (by decide) (.slice va P.length vc) P.length (flatPu P) rfl (owns_below hown.out (by repeat (first | with_reducible exact Below.refl _ _ | (with_reducible refine kSet ?_ ?hB _; case hB => (simp; try omega)) | with_reducible refine kAlloc ?_ _ | with_reducible refine Below.drew ?_ | with_reducible refine kDrewN ?_ _ | with_reducible refine kTrans ?_ (by assumption)))) ⟨wr.heap.size, 0, none⟩ 1 1 (Pu.mk a.x a.y a.side x).cells rfl rfl (World.news_of_block (cs := #[.int .i8 a.x, .int .i8 a.y, .int .i8 a.side, .int .i16 x]) (heap_alloc_new wr.drew _)) (Pu_one _) (by unfold maxLen; omega) (by omega) (by have := hbr.size; simp; omega) ?_
             intro v6 w6 hown6 hgr hnil
             have Hown6 := Lib.hid (show w6.ownsRow w.heap.size 140 4 v6 (P ++ [Pu.mk a.x a.y a.side x]).length (flatPu (P ++ [Pu.mk a.x a.y a.side x])) by rw [flatPu_end, List.length_append]; exact hown6)
             have T6 : Below w.heap.size w w6 := grown_below (v := .slice va P.length vc) (by repeat (first | with_reducible exact Below.refl _ _ | (with_reducible refine kSet ?_ ?hB _; case hB => (simp; try omega)) | with_reducible refine kAlloc ?_ _ | with_reducible refine Below.drew ?_ | with_reducible refine kDrewN ?_ _ | with_reducible refine kTrans ?_ (by assumption))) hgr (by intro q hq; exact (Hblk.out q hq).1)
             obtain ⟨⟨a0, a1, a2⟩, hta⟩ := HEL.out w6 T6
             simp only [Nat.zero_add] at a0 a1 a2 hta
             obtain ⟨x0, x1, x2, x3, x4⟩ := HM.out w6 T6
             have Hnn6 := Lib.hid (show v6 ≠ .slice none 0 0 from fun e => by have := (hnil.1 e).2; omega)
             clear hown6 hgr hnil))
        go_wp2
        exact ⟨⟨j + 1, _, by omega, by go_num, by simp; omega, hR2, Hown6, Hnn6, T6⟩, by simp [intOf]; omega⟩
    · obtain rfl : j = n := by omega
      have hPL : P = L := by rw [← hf.out, List.drop_of_length_le (by rw [Hn1.out]; omega)]; simp [pushFrom]
      subst hPL
      clear hf
      go_wp2
      go_ret
      exact ⟨_, rfl, hown.out, hnn.out, hbr⟩
theorem owns_some {w : World} {base : Nat} {e : TypeId} {ua : Option Addr} {uc : Nat} {L : List Pu} (h : w.ownsRow base e 4 (.slice ua L.length uc) L.length (flatPu L)) (hv : Value.slice ua L.length uc ≠ .slice none 0 0) : ∃ pb, ua = some ⟨pb, 0, none⟩ ∧ PusAt w pb 0 L ∧ pb < w.heap.size ∧ L.length ≤ uc := by
  have h1 := SlWPu.of_owns h
  rcases h.2 with ⟨h2, h3⟩ | ⟨g, cap, cur, h2, _, h4, h5, _⟩
  · exact absurd h2 hv
  · have hg : g < w.heap.size := (Array.getElem?_eq_some_iff.1 h4).1
    cases h2
    refine ⟨g, rfl, ?_, hg, h5⟩
    generalize hv2 : Value.slice (some ⟨g, 0, none⟩) L.length uc = v at h1
    cases h1 with
    | empty a c h => intro i hi; rw [h] at hi; simp at hi
    | mk b o c hc _ _ _ _ _ => cases hv2; exact hc
theorem l02RunTo2 (bb bo b o m cap pb n pc : Nat) (wd hi : Int) (lb : List Pc) (l : List Pu) (w : World) (hm : lb.length = m) (hbd : BdAt w bb bo wd hi (.slice (some ⟨b, o, none⟩) m cap)) (hq : PcsAt w b o lb) (hbb : b < w.heap.size) (hcap : m ≤ cap)
    (hn : l.length = n) (hnc : n ≤ pc) (hp : PusAt w pb 0 l) (hb : pb < w.heap.size) (hR : true = (boardOk wd hi lb && pushesOk lb l)) (lr : List Fl) (hlr : RunsTo true lb l lr) :
    Calls Tryz.prog 33 #[.pointer (some ⟨bb, bo, none⟩), .slice (some ⟨pb, 0, none⟩) n pc] w fun e w' => ∃ g, e = .returned (.slice (some ⟨g, 0, none⟩) m m) ∧ FlsAt w' g 0 lr ∧ g < w'.heap.size ∧ Below w.heap.size w w' := by
  have hok : boardOk wd hi lb = true ∧ pushesOk lb l = true := by simpa using hR.symm
  have h200 := boardOk_len hok.1
  refine (l02Run_any bb bo b o m cap pb n pc wd hi lb l w hm hbd hq hbb hcap (allOk hok.1) (by omega) hn hp hb (pushesOk_plain hok.2) (pushesOk_found hok.2) (by have := pushesOk_len hok.2; omega) hnc).mono ?_
  rintro e w' ⟨g, F, rfl, hF, hS, hg, hb'⟩
  exact ⟨g, rfl, hlr.at_ (gameL_ok (allOk hok.1) (pushesOk_plain hok.2)) hm hF hS, hF.lt, hb'⟩
set_option maxRecDepth 100000 in
set_option maxHeartbeats 16000000 in
theorem l03Ticks_any (bb b k q g0 m n r : Nat) (wd hi row : Int) (l : List Pc) (p : List Po) (c : List Cl) (t : List Int) (w : World) (hmc : McAt w bb wd hi (.slice (some ⟨b, 0, none⟩) m m) (.slice (some ⟨k, 0, none⟩) n n) (.slice (some ⟨q, 0, none⟩) r r)) (hp : PcsAt w b 0 l) (hg : PosAt w k 0 p) (hj : ClsAt w q 0 c) (ht : InsAt w g0 0 t) (zb : b < w.heap.size) (zk : k < w.heap.size) (zq : q < w.heap.size) (zg : g0 < w.heap.size)
    (hm : l.length = m) (hn1 : p.length = n) (hr0 : c.length = r) (hr : t.length = n) (h6 : n ≤ 6) (hr8 : r ≤ 8) (hrow : 0 ≤ row ∧ row ≤ 64) (hl : lateAll t = true) (lr : List Fl) (hrun : RowRun wd hi row l p c t lr) (L : List Int) (hL : ticksL l lr c = L) :
    Calls Tryz.prog 104 #[.pointer (some ⟨bb, 0, none⟩), .int .i64 row, .slice (some ⟨g0, 0, none⟩) n n] w fun e w' => ∃ v, e = .returned v ∧ SlWIn w.heap.size w'.heap.size w' L v ∧ Below w.heap.size w w' := by
  obtain ⟨i0, hi0, hz0, hzz1, hzz2⟩ := info_parts info_i64n
  have Hi := Lib.hid hi0
  have Hz0 := Lib.hid hz0
  have Hz1 := Lib.hid hzz1
  have Hz2 := Lib.hid hzz2
  have lbb := hmc.lt
  have HM := Lib.hid (fun W (hW : Below w.heap.size w W) => hmc.below hW lbb)
  have HPc := Lib.hid (fun W (hW : Below w.heap.size w W) => hp.below hW zb)
  have HCl := Lib.hid (fun W (hW : Below w.heap.size w W) => hj.below hW zq)
  obtain ⟨P, hP⟩ : ∃ P, pushFrom row p t 0 = P := ⟨_, rfl⟩
  have HPu := Lib.hid (fun W (hW : Below w.heap.size w W) => l03PushesO_any bb k g0 n _ _ wd hi row p t W hn1 hr (hmc.below hW lbb) (hg.below hW zk) (ht.below hW zg) (Nat.lt_of_lt_of_le zk hW.size) (Nat.lt_of_lt_of_le zg hW.size) h6 hrow hl P hP)
  have hrn : RunsTo true l P lr := by have := hrun.runs; rwa [hP] at this
  have hok : true = (boardOk wd hi l && pushesOk l P) := by have := hrun.ok; rwa [hP] at this
  have h200 : m ≤ 200 := by have := boardOk_len (show boardOk wd hi l = true by simp at hok; exact hok.1); omega
  have HRun := Lib.hid (fun W (hW : Below w.heap.size w W) (pb pc : Nat) (e1 : P.length ≤ pc) (e2 : PusAt W pb 0 P) (e3 : pb < W.heap.size) => l02RunTo2 bb 0 b 0 m m pb P.length pc wd hi l P W hm ⟨(hmc.below hW lbb).1, (hmc.below hW lbb).2.1, (hmc.below hW lbb).2.2.1⟩ (hp.below hW zb) (Nat.lt_of_lt_of_le zb hW.size) (Nat.le_refl _) rfl e1 e2 e3 hok lr hrn)
  have HFd := Lib.hid (fun W (hW : Below w.heap.size w W) x y => l01Find_any bb 0 b 0 m m wd hi x y l W hm ⟨(hmc.below hW lbb).1, (hmc.below hW lbb).2.1, (hmc.below hW lbb).2.2.1⟩ (hp.below hW zb) (Nat.lt_of_lt_of_le zb hW.size) (Nat.le_refl _) (by omega))
  have HRn := Lib.hid hrun
  have Hc := Lib.hid hr0
  have Hm := Lib.hid hm
  have HLL : Hid (([] : List Int) ++ ticksL l lr (c.drop 0) = L) := Lib.hid (by simpa using hL)
  clear hmc hp hg hj ht hm hn1 hr0 hr hl hrun hL hP hrn hok hi0 hz0 hzz1 hzz2
  go_enter Tryz.func104, Tryz.ntmps104
  go_wp2_with fail
  go_region_held3 (fun _ => True) (trivial)
    (first
    | (go_at_call 33
       obtain ⟨pb, rfl, ePu, eLt, eLe⟩ := owns_some Hu.out Hnn.out
       refine (HRun.out _ kv1 pb uc eLe ePu eLt).mono ?_
       rintro e v2 ⟨g, rfl, hfl, hg2, b2⟩
       have Hfl := Lib.hid hfl
       have kv2 := kTrans kv1 b2
       clear hfl)
    | (go_at_call 34
       refine (HPu.out _ (by first | exact Below.refl _ _ | exact Below.drew (Below.refl _ _))).mono ?_
       rintro e v1 ⟨u, rfl, hu, hnn, b1⟩
       obtain ⟨ua, uc, rfl⟩ := owns_slice hu
       have Hu := Lib.hid hu
       have Hnn := Lib.hid hnn
       have kv1 : Below w.heap.size w v1 := kTrans (show Below w.heap.size w _ by first | exact Below.refl _ _ | exact Below.drew (Below.refl _ _)) b1
       clear hu hnn))
  have own0 : Hid ((v2.alloc (.cells #[] 2)).ownsRow v2.heap.size 2 1 (.slice (some ⟨v2.heap.size, 0, none⟩) 0 0) ([] : List Int).length (flatIn [])) := Lib.hid (owns_new (Nat.le_refl _) (heap_alloc_new _ _))
  have hk0 : Below v2.heap.size v2 (v2.alloc (.cells #[] 2)) := by repeat (first | with_reducible exact Below.refl _ _ | (with_reducible refine kSet ?_ ?hB _; case hB => (simp; try omega)) | with_reducible refine kAlloc ?_ _ | with_reducible refine Below.drew ?_ | with_reducible refine kDrewN ?_ _ | with_reducible refine kTrans ?_ (by assumption))
  go_wp2
  go_loopw [8, 9] (fun out i wr => ∃ (j : Nat) (A : List Int), j ≤ r ∧ i = .int .i64 j ∧ A.length ≤ j ∧ Hid (A ++ ticksL l lr (c.drop j) = L) ∧ Hid (wr.ownsRow v2.heap.size 2 1 out A.length (flatIn A)) ∧ Below v2.heap.size v2 wr) (fun _ i _ => r - (intOf i).toNat)
  case atStart => exact ⟨0, [], by omega, rfl, by simp, HLL, own0, hk0⟩
  case round =>
    clear HLL own0 hk0
    obtain ⟨j, A, hj, rfl, hAl, hf, hown, hbr⟩ := hrel
    obtain ⟨va, vc, rfl⟩ := owns_slice hown.out
    have Tr := kTrans kv2 hbr
    obtain ⟨x0, x1, x2, x3, x4⟩ := HM.out wr Tr
    have kb := Nat.lt_of_lt_of_le lbb Tr.size
    have kq := Nat.lt_of_lt_of_le zq Tr.size
    have kg := Nat.lt_of_lt_of_le hg2 hbr.size
    by_cases hlt : j < r
    · have hlk : j < c.length := by rw [Hc.out]; exact hlt
      have hpa := (HCl.out wr Tr) j hlk
      have hfo := HRn.out.found _ (List.getElem_mem hlk)
      have hq := hf.out
      rw [ticksL_drop l lr c j hlk] at hq
      have hec : ∀ W, Below w.heap.size w W → ClAt W q (0 + j * 2) c[j] := fun W hW => (HCl.out W hW) j hlk
      generalize c[j] = x at hpa hfo hq hec
      obtain ⟨kf, hkf⟩ : ∃ kf : Nat, findFrom x.x x.y l 0 = kf := ⟨(findFrom x.x x.y l 0).toNat, by omega⟩
      have hkm : kf < m := by have := Hm.out; omega
      have hkl : kf < lr.length := by have := HRn.out.len; have := Hm.out; omega
      have htk : tickAt l lr x = (lr[kf]).tick := by
        unfold tickAt; rw [hkf, Int.toNat_natCast, List.getD_eq_getElem?_getD, List.getElem?_eq_getElem hkl]; rfl
      have HEL := Lib.hid (fun W (hW : Below v2.heap.size v2 W) => (Hfl.out.below hW hg2) kf hkl)
      have HEC := Lib.hid hec
      rw [htk] at hq
      generalize lr[kf] = fl at hq HEL
      have hq2 : Hid ((A ++ [fl.tick]) ++ ticksL l lr (c.drop (j + 1)) = L) := Lib.hid (by rw [← hq]; simp)
      have HFk := Lib.hid (fun W (hW : Below w.heap.size w W) => by have h := HFd.out W hW x.x x.y; rw [hkf] at h; exact h)
      obtain ⟨a0, a1⟩ := hpa
      have f0 := (HEL.out wr hbr).1
      simp only [Nat.zero_add] at a0 a1 f0
      have Hblk := Lib.hid (owns_block hown.out)
      clear hq htk hkf hfo hf hec
      go_wp2_with fail
      go_region_held_law (fun w' => w'.cell? ⟨bb, 4, none⟩ = some (.slice (some ⟨q, 0, none⟩) r r) ∧ w'.cell? ⟨q, j * 2, none⟩ = some (.int .i8 x.x) ∧ w'.cell? ⟨q, j * 2 + 1, none⟩ = some (.int .i8 x.y) ∧ w'.cell? ⟨g, kf * 3, none⟩ = some (.int .i64 fl.tick)) (first | exact ⟨x4, a0, a1, f0⟩ | exact ⟨(World.cell?_alloc_lt _ _ _ kb).trans x4, (World.cell?_alloc_lt _ _ _ kq).trans a0, (World.cell?_alloc_lt _ _ _ kq).trans a1, (World.cell?_alloc_lt _ _ _ kg).trans f0⟩ | go_keep)
        (first
        | (go_at_call 73
           refine (HFk.out _ (kTrans Tr (by first | exact Below.refl _ _ | exact Below.drew (Below.refl _ _)))).mono ?_
           rintro e v3 ⟨rfl, b3⟩
           have k3 : Below wr.heap.size wr v3 := kTrans (show Below wr.heap.size wr _ by first | exact Below.refl _ _ | exact Below.drew (Below.refl _ _)) b3
           have x4 := (k3.cell (p := ⟨bb, 4, none⟩) kb).trans x4
           have a0 := (k3.cell (p := ⟨q, j * 2, none⟩) kq).trans a0
           have a1 := (k3.cell (p := ⟨q, j * 2 + 1, none⟩) kq).trans a1
           have f0 := (k3.cell (p := ⟨g, kf * 3, none⟩) kg).trans f0
           have kb := Nat.lt_of_lt_of_le kb k3.size
           have kq := Nat.lt_of_lt_of_le kq k3.size
           have kg := Nat.lt_of_lt_of_le kg k3.size)
        | (refine step_append_own rfl _ _ 31 rfl v2.heap.size 2 i0 _ 1 8 Tryz.underlying31 Hi.out Hz0.out Hz1.out Hz2.out rfl (by decide) (.slice va A.length vc) A.length (flatIn A) rfl (owns_below hown.out (kTrans k3 (kAlloc (Below.refl _ _) _))) ⟨v3.heap.size, 0, none⟩ 1 1 [.int .i64 fl.tick] rfl rfl (World.news_of_block (cs := #[.int .i64 fl.tick]) (heap_alloc_new v3 _)) (by simp [Value.oneCell']) (by unfold maxLen; omega) (by omega) (by have := hbr.size; have := k3.size; simp; omega) ?_
           intro v6 w6 hown6 hgr hnil
           have Hown6 := Lib.hid (show w6.ownsRow v2.heap.size 2 1 v6 (A ++ [fl.tick]).length (flatIn (A ++ [fl.tick])) by rw [flatIn_end, List.length_append]; exact hown6)
           have T6 : Below v2.heap.size v2 w6 := grown_below (v := .slice va A.length vc) (kTrans hbr (kTrans k3 (kAlloc (Below.refl _ _) _))) hgr (by intro q hq; exact (Hblk.out q hq).1)
           obtain ⟨a0, a1⟩ := HEC.out w6 (kTrans kv2 T6)
           have f0 := (HEL.out w6 T6).1
           simp only [Nat.zero_add] at a0 a1 f0
           obtain ⟨x0, x1, x2, x3, x4⟩ := HM.out w6 (kTrans kv2 T6)
           clear hown6 hgr hnil))
      go_wp2
      exact ⟨⟨j + 1, _, by omega, by go_num, by simp; omega, hq2, Hown6, T6⟩, by simp [intOf]; omega⟩
    · obtain rfl : j = r := by omega
      have hAL : A = L := by rw [← hf.out, List.drop_of_length_le (by rw [Hc.out]; omega)]; simp [ticksL]
      subst hAL
      have HW := Lib.hid ((SlWIn.of_owns hown.out).mono (show w.heap.size ≤ v2.heap.size from kv2.size) (Nat.le_refl _))
      clear hf hown
      go_wp2
      go_ret
      exact ⟨_, rfl, HW.out, Tr⟩
set_option maxRecDepth 100000 in
set_option maxHeartbeats 16000000 in
theorem l03Outputs_any (bb b k q g0 m n r : Nat) (wd hi row : Int) (l : List Pc) (p : List Po) (c : List Cl) (t : List Int) (w : World) (hmc : McAt w bb wd hi (.slice (some ⟨b, 0, none⟩) m m) (.slice (some ⟨k, 0, none⟩) n n) (.slice (some ⟨q, 0, none⟩) r r)) (hp : PcsAt w b 0 l) (hg : PosAt w k 0 p) (hj : ClsAt w q 0 c) (ht : InsAt w g0 0 t) (zb : b < w.heap.size) (zk : k < w.heap.size) (zq : q < w.heap.size) (zg : g0 < w.heap.size)
    (hm : l.length = m) (hn1 : p.length = n) (hr0 : c.length = r) (hr : t.length = n) (h6 : n ≤ 6) (hr8 : r ≤ 8) (hrow : 0 ≤ row ∧ row ≤ 64) (hl : lateAll t = true) (lr : List Fl) (hrun : RowRun wd hi row l p c t lr) (L : List Int) (hL : ticksL l lr c = L) (O : Int) (hO : outsB L 0 0 = O) :
    Calls Tryz.prog 63 #[.pointer (some ⟨bb, 0, none⟩), .int .i64 row, .slice (some ⟨g0, 0, none⟩) n n] w fun e w' => e = .returned (.int .i64 O) ∧ Below w.heap.size w w' := by
  have HT := Lib.hid (l03Ticks_any bb b k q g0 m n r wd hi row l p c t w hmc hp hg hj ht zb zk zq zg hm hn1 hr0 hr h6 hr8 hrow hl lr hrun L hL)
  have HLt := Lib.hid (show L.length = r by rw [← hL, ticksL_length, hr0])
  have HTk := Lib.hid (show ∀ x ∈ L, x = -1 ∨ (0 ≤ x ∧ x ≤ 2800) by rw [← hL]; exact hrun.ticks_wf)
  have HO0 : Hid (outsB (L.drop 0) 0 0 = O) := Lib.hid hO
  clear hmc hp hg hj ht hm hn1 hr0 hr hl hrun hL hO
  go_enter Tryz.func63, Tryz.ntmps63
  go_wp2_with fail
  refine HT.out.mono ?_
  rintro e w1 ⟨v, rfl, hv, T1⟩
  obtain ⟨va, vc, rfl⟩ := hv.form
  have HV := Lib.hid hv.sl
  rw [HLt.out] at HV ⊢
  clear HT hv
  go_wp2
  go_loopw [8, 9] (fun x i wr => ∃ (j : Nat) (a : Int), j ≤ r ∧ i = .int .i64 j ∧ x = .int .i64 a ∧ Hid (outsB (L.drop j) j a = O) ∧ w1 = wr) (fun _ i _ => r - (intOf i).toNat)
  case atStart => exact ⟨0, 0, by omega, rfl, rfl, HO0, rfl⟩
  case round =>
    clear HO0
    obtain ⟨j, a, hj, rfl, rfl, hf, rfl⟩ := hrel
    by_cases hlt : j < r
    · have hlL : j < L.length := by rw [HLt.out]; exact hlt
      obtain ⟨g, o, rfl, hc, hg⟩ : ∃ g o, va = some ⟨g, o, none⟩ ∧ InsAt w1 g o L ∧ g < w1.heap.size := by
        have h := HV.out
        generalize hv : Value.slice va r vc = v at h
        cases h with
        | empty _ _ h => rw [h] at hlL; simp at hlL
        | mk g o c h1 h2 h3 => cases hv; exact ⟨_, _, rfl, h1, h2⟩
      have hle : r ≤ vc := by
        have h := HV.out
        generalize hv : Value.slice (some ⟨g, o, none⟩) r vc = v at h
        cases h with
        | empty _ _ h => rw [h] at hlL; simp at hlL
        | mk g o c h1 h2 h3 => cases hv; have := HLt.out; omega
      have hx := hc j hlL
      have hd : L.drop j = L[j] :: L.drop (j + 1) := List.drop_eq_getElem_cons hlL
      have hr := HTk.out _ (List.getElem_mem hlL)
      have hju : IntKind.u64.wrap (j : Int) = j := IntWalk.u64_in _ (by omega)
      generalize L[j] = x at hx hd hr
      have hq := hf.out
      rw [hd] at hq
      clear hd hf hc
      by_cases hs : x = -1
      · have hO2 : Hid (outsB (L.drop (j + 1)) (j + 1) a = O) := Lib.hid (by rw [← hq, outsB_yes hs])
        have hs2 : ¬ 0 ≤ x := by omega
        clear hq
        go_wp2
        exact ⟨⟨j + 1, a, by omega, by go_num, rfl, hO2, trivial⟩, by simp [intOf]; omega⟩
      · have hO2 : Hid (outsB (L.drop (j + 1)) (j + 1) (Go.bits .or .i64 a (shl1 j)) = O) := Lib.hid (by rw [← hq, outsB_no hs])
        have hs2 : 0 ≤ x := by omega
        have hsh := shl1_lt (show j ≤ 8 by omega)
        clear hq
        go_wp2
        exact ⟨⟨j + 1, _, by omega, by go_num, rfl, hO2, trivial⟩, by simp [intOf]; omega⟩
    · have hOa : a = O := by rw [← hf.out, List.drop_of_length_le (by rw [HLt.out]; omega)]; rfl
      subst hOa
      clear hf
      go_wp2
      go_ret
      exact ⟨rfl, T1⟩
end Go.Proofs.YthohngkdfhpieaaGreatDoor
