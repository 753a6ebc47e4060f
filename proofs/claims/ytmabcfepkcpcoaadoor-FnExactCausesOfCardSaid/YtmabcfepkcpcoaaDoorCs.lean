/- CausesOf: the model. -/
import Derived.Test.YtmabcfepkcpcoaaDoorCa
namespace Go.Proofs.YtmabcfepkcpcoaaDoor
open Go.ChangeShapes Go.WideShapes Go.ChangeAt Go.RowKit
set_option linter.unusedVariables false
set_option linter.unusedSimpArgs false

theorem InsAt.news {w : World} {b o : Nat} {l : List Int} (h : InsAt w b o l) : ∀ j u, (flatIn l)[j]? = some u → w.cell? ((⟨b, o, none⟩ : Addr).add j) = some u := by
  intro j u hu
  rw [add_none]
  have hj : j < l.length := by
    cases hlt : decide (j < l.length) with
    | true => simpa using hlt
    | false => rw [List.getElem?_eq_none (by rw [flatIn_length]; simpa using hlt)] at hu; cases hu
  rw [h j hj, ← hu]
  simp [flatIn, List.getElem?_eq_getElem hj]
theorem owns_one {w : World} {base g : Nat} {e : TypeId} {v : Value} (hb : base ≤ g) (hg : w.heap[g]? = some (.cells #[v] e (0, 0))) : w.ownsRow base e 1 (.slice (some ⟨g, 0, none⟩) 1 1) 1 [v] :=
  ⟨by simp, .inr ⟨g, 1, #[v], rfl, hb, hg, Nat.le_refl _, by unfold maxLen; omega, by simp, by simp⟩⟩
theorem ins_form {lo hi : Nat} {w : World} {l : List Int} {v : Value} (h : SlWIn lo hi w l v) (h0 : l ≠ []) : ∃ g o c, v = .slice (some ⟨g, o, none⟩) l.length c ∧ InsAt w g o l := by
  cases h with
  | empty a c h => exact absurd h h0
  | mk b o cap hc h1 h2 hb hf hl => exact ⟨b, o, cap, rfl, hc⟩
theorem runs_ticks {wd hi : Int} {lb : List Pc} {l : List Pu} {R : Bool} {lr : List Fl} (hR : R = (boardOk wd hi lb && pushesOk lb l)) (h : RunsTo R lb l lr) : ∀ f ∈ lr, f.tick ≤ 2800 := by
  intro f hf
  cases R with
  | false => rw [h.1 rfl] at hf; simp at hf
  | true =>
    have hb : boardOk wd hi lb = true ∧ pushesOk lb l = true := by simpa using hR.symm
    obtain ⟨H, hH, hF⟩ := RunI.ends (m := lb.length) rfl (boardOk_len hb.1) (allOk hb.1) (pushesOk_plain hb.2) _ _ _ rfl (RunI.start rfl (pushesOk_plain hb.2) (pushesOk_len hb.2))
    obtain ⟨h1, h2⟩ := h.2 rfl
    obtain ⟨k, hk, rfl⟩ := List.mem_iff_getElem.1 hf
    have hk' : k < lb.length := by omega
    have e := sol_unique (gameL_ok (allOk hb.1) (pushesOk_plain hb.2)) hH h2 k hk'
    have e2 : lr.getD k stay = lr[k] := by rw [List.getD_eq_getElem?_getD, List.getElem?_eq_getElem hk]; rfl
    have e3 : H k = lr[k] := e.trans e2
    by_cases h0 : (H k).tick < 0
    · rw [← e3]; omega
    · have := hF k hk' (by omega)
      rw [← e3]; unfold Fl.fine at this; omega
set_option maxRecDepth 100000 in
set_option maxHeartbeats 4000000 in
theorem specCausesOf_any (b m cap : Nat) (wd hi : Int) (lb : List Pc) (pb n : Nat) (l : List Pu) (w : World) (hm : lb.length = m) (hq : PcsAt w b 0 lb) (hbb : b < w.heap.size) (hcap : m ≤ cap) (h8 : All8 lb) (hw8 : i8 wd) (hh8 : i8 hi) (hmm : m ≤ 1048576)
    (hn : l.length = n) (hp : PusAt w pb 0 l) (hb : pb < w.heap.size) (hw : PusWf l) (hmax : n ≤ 1048576) (R : Bool) (hR : R = (boardOk wd hi lb && pushesOk lb l)) (lr : List Fl) (hlr : RunsTo R lb l lr) (hlen : lr.length ≤ 200)
    (i : Int) (L : List Int) (hP : Causes R i lr L) (C : Int) (hC : causeC R i lr = C) :
    Calls Tryd.prog 38 #[.agg #[.int .i8 wd, .int .i8 hi, .slice (some ⟨b, 0, none⟩) m cap], .slice (some ⟨pb, 0, none⟩) n n, .int .i64 i] w (InPost L.reverse C w) := by
  obtain ⟨i0, hi0, hz0, hzz1, hzz2⟩ := info_parts info_i64
  have Hi := Lib.hid hi0
  have Hz0 := Lib.hid hz0
  have Hz1 := Lib.hid hzz1
  have Hz2 := Lib.hid hzz2
  have hk : Below w.heap.size w (w.alloc (.cells #[.int .i8 wd, .int .i8 hi, .slice (some ⟨b, 0, none⟩) m cap] 34)) := by repeat (first | with_reducible exact Below.refl _ _ | (with_reducible refine kSet ?_ ?hB _; case hB => (simp; try omega)) | with_reducible refine kAlloc ?_ _ | with_reducible refine Below.drew ?_ | with_reducible refine kDrewN ?_ _ | with_reducible refine kTrans ?_ (by assumption))
  have hbx := BdAt.box w wd hi (.slice (some ⟨b, 0, none⟩) m cap) 34
  have HX := Lib.hid (fun C' (hC : (R = true → C' = 0) ∧ (R = false → C' = 1)) => l02Asked_any w.heap.size 0 b 0 m cap wd hi lb pb n l _ hm hbx (hq.below hk hbb) (Nat.lt_of_lt_of_le hbb hk.size) hcap h8 hw8 hh8 hmm hn (hp.below hk hb) (Nat.lt_of_lt_of_le hb hk.size) hw hmax R hR C' hC)
  have HP := Lib.hid hP
  have HC := Lib.hid hC
  cases R with
  | false =>
    obtain rfl : (1 : Int) = C := hC
    obtain rfl : L = [] := HP.out.2.1 (by simp [causeC])
    have H1 := Lib.hid (HX.out 1 ⟨fun h => (by cases h), fun _ => rfl⟩)
    clear hm hq hn hp hR h8 hw hbx hlr HX hk hi0 hz0 hzz1 hzz2 HP HC hP
    go_enter Tryd.func38, Tryd.ntmps38
    go_wp2_with fail
    refine H1.out.mono ?_
    rintro e w1 ⟨rfl, hb1⟩
    have T : Below w.heap.size w w1 := by repeat (first | with_reducible exact Below.refl _ _ | (with_reducible refine kSet ?_ ?hB _; case hB => (simp; try omega)) | with_reducible refine kAlloc ?_ _ | with_reducible refine Below.drew ?_ | with_reducible refine kDrewN ?_ _ | with_reducible refine kTrans ?_ (by assumption))
    clear H1
    go_wp2
    exact bodyPost_ret (v := .tuple #[.slice (some ⟨w1.heap.size, 0, none⟩) 0 0, .int .i64 1]) (by simp [results, Tryd.results38, go_sem]) rfl ⟨_, rfl, .empty _ _ rfl, by repeat (first | with_reducible exact Below.refl _ _ | (with_reducible refine kSet ?_ ?hB _; case hB => (simp; try omega)) | with_reducible refine kAlloc ?_ _ | with_reducible refine Below.drew ?_ | with_reducible refine kDrewN ?_ _ | with_reducible refine kTrans ?_ (by assumption))⟩
  | true =>
    have hlm : lr.length = m := by rw [(hlr.2 rfl).1, hm]
    have H1 := Lib.hid (HX.out 0 ⟨fun _ => rfl, fun h => (by cases h)⟩)
    have HY := Lib.hid (fun w2 (h2 : Below (w.alloc (.cells #[.int .i8 wd, .int .i8 hi, .slice (some ⟨b, 0, none⟩) m cap] 34)).heap.size (w.alloc (.cells #[.int .i8 wd, .int .i8 hi, .slice (some ⟨b, 0, none⟩) m cap] 34)) w2) =>
      l02Run_to w.heap.size 0 b 0 m cap pb n wd hi lb l w2 hm (hbx.below h2 hbx.lt) ((hq.below hk hbb).below h2 (Nat.lt_of_lt_of_le hbb hk.size)) (Nat.lt_of_lt_of_le hbb (Nat.le_trans hk.size h2.size)) hcap hn ((hp.below hk hb).below h2 (Nat.lt_of_lt_of_le hb hk.size)) (Nat.lt_of_lt_of_le hb (Nat.le_trans hk.size h2.size)) hR lr hlr)
    have Hbx := Lib.hid hbx
    clear hm hq hn hp hR h8 hw hbx hlr HX hi0 hz0 hzz1 hzz2 hP hC
    go_enter Tryd.func38, Tryd.ntmps38
    go_wp2_with fail
    refine H1.out.mono ?_
    rintro e w1 ⟨rfl, hb1⟩
    have hb01 := kTrans hk hb1
    obtain ⟨q0, q1, q2⟩ := Hbx.out.below hb1 Hbx.out.lt
    simp only [Nat.zero_add] at q0 q1 q2
    have H2 := Lib.hid (HY.out w1 hb1)
    clear HY H1 hb1 hk Hbx
    by_cases hin : 0 ≤ i ∧ i < m
    · obtain ⟨k0, rfl⟩ : ∃ k0 : Nat, i = k0 := ⟨i.toNat, by omega⟩
      go_wp2_with fail
      refine (l00In_yes _ _ _ _ (by omega) (by omega)).mono ?_
      rintro e w1' ⟨rfl, rfl⟩
      go_wp2_with fail
      refine H2.out.mono ?_
      rintro e w2 ⟨v, rfl, hv, hb2⟩
      have hb02 := kTrans hb01 hb2
      have hkl : k0 < lr.length := by omega
      have hne : lr ≠ [] := by intro h; rw [h] at hkl; simp at hkl
      obtain ⟨g, o, c, rfl, hfl, hgl, hle⟩ := fls_form hv hne
      have hge : lr.getD ((k0 : Int)).toNat stay = lr[k0] := by rw [Int.toNat_natCast, List.getD_eq_getElem?_getD, List.getElem?_eq_getElem hkl]; rfl
      obtain ⟨f0, f1, f2⟩ := hfl k0 hkl
      have Hge := Lib.hid hge
      generalize lr[k0] = f at Hge f0 f1 f2
      have Hfl := Lib.hid hfl
      have hk0m : (k0 : Int) < (m : Int) := by omega
      rw [hlm] at hle ⊢
      have Hlm := Lib.hid hlm
      clear hv H2 hb01 hb2 hfl hge q0 q1 q2 hlm hkl
      by_cases ht : f.tick < 0
      · obtain rfl : (6 : Int) = C := by
          rw [← HC.out]; unfold causeC; rw [if_pos rfl, if_pos (by rw [Hlm.out]; omega), Hge.out, if_pos ht]
        obtain rfl : L = [] := HP.out.2.1 (by rw [HC.out]; decide)
        clear HC HP
        go_wp2
        exact bodyPost_ret (v := .tuple #[.slice (some ⟨w2.heap.size, 0, none⟩) 0 0, .int .i64 6]) (by simp [results, Tryd.results38, go_sem]) rfl ⟨_, rfl, .empty _ _ rfl, by repeat (first | with_reducible exact Below.refl _ _ | (with_reducible refine kSet ?_ ?hB _; case hB => (simp; try omega)) | with_reducible refine kAlloc ?_ _ | with_reducible refine Below.drew ?_ | with_reducible refine kDrewN ?_ _ | with_reducible refine kTrans ?_ (by assumption))⟩
      · have hc0 : causeC true (k0 : Int) lr = 0 := by
          unfold causeC; rw [if_pos rfl, if_pos (by rw [Hlm.out]; omega), Hge.out, if_neg ht]
        obtain rfl : (0 : Int) = C := hc0.symm.trans HC.out
        have HCh := Lib.hid (HP.out.1 hc0)
        have hLl := HP.out.2.2.1
        have bA : Below w2.heap.size w2 (w2.alloc (.cells #[] 2)) := by repeat (first | with_reducible exact Below.refl _ _ | (with_reducible refine kSet ?_ ?hB _; case hB => (simp; try omega)) | with_reducible refine kAlloc ?_ _ | with_reducible refine Below.drew ?_ | with_reducible refine kDrewN ?_ _ | with_reducible refine kTrans ?_ (by assumption))
        have HS0 : Hid (SlWIn w2.heap.size (w2.alloc (.cells #[] 2)).heap.size (w2.alloc (.cells #[] 2)) ([] : List Int).reverse (.slice (some ⟨w2.heap.size, 0, none⟩) 0 0)) := Lib.hid (.empty _ _ rfl)
        have HN0 : Hid (∀ j u, (flatIn ([] : List Int).reverse)[j]? = some u → (w2.alloc (.cells #[] 2)).cell? ((⟨w2.heap.size, 0, none⟩ : Addr).add j) = some u) := Lib.hid (fun j u hu => by simp [flatIn] at hu)
        have HL : Hid (([] : List Int) ++ L = L) := Lib.hid rfl
        clear HC HP hc0 Hge
        go_wp2
        clear f0 f1 f2 ht
        go_loopg [11, 10] L.length (fun kg iv out wr => ∃ (a : Int) (P rest : List Int) (ad : Addr) (oc : Nat), iv = .int .i64 a ∧ out = .slice (some ad) P.length oc ∧ rest.length = kg ∧ Hid (P ++ rest = L) ∧ Hid (Chain lr a rest) ∧ Hid (SlWIn w2.heap.size wr.heap.size wr P.reverse (.slice (some ad) P.length oc)) ∧ Hid (∀ j u, (flatIn P.reverse)[j]? = some u → wr.cell? (ad.add j) = some u) ∧ Below w2.heap.size w2 wr)
        case atStart => exact ⟨k0, [], L, ⟨w2.heap.size, 0, none⟩, 0, rfl, rfl, rfl, HL, HCh, HS0, HN0, bA⟩
        case round =>
          clear HL HCh HS0 HN0 bA
          obtain ⟨a, P, rest, ad, oc, rfl, rfl, hr, hf, hch, hsl, hnews, hbr⟩ := hrel
          have hpl : P.length ≤ 10000 := by have := congrArg List.length hf.out; rw [List.length_append] at this; omega
          rcases hch.out.or with ⟨rfl, rfl⟩ | ⟨k, f', L', rfl, rfl, hkf, hch2⟩
          · have hPL : P = L := by simpa using hf.out
            subst hPL
            have T := kTrans hb02 hbr
            have Hs := Lib.hid (hsl.out.mono hb02.size (Nat.le_refl _))
            clear hf hsl hch hnews Hfl
            go_wp2
            exact bodyPost_ret (v := .tuple #[.slice (some ad) P.length oc, .int .i64 0]) (by simp [results, Tryd.results38, go_sem]) rfl ⟨_, rfl, Hs.out, T⟩
          · obtain ⟨hkl, hfe⟩ := List.getElem?_eq_some_iff.1 hkf
            have hki : (k : Int) < (m : Int) := by have := Hlm.out; omega
            have hk00 : (0 : Int) ≤ (k : Int) := by omega
            have e0 : decide ((0 : Int) ≤ (k : Int)) = true := by simp
            have hf2 : Hid ((P ++ [(k : Int)]) ++ L' = L) := Lib.hid (by rw [← hf.out]; simp)
            have Hch2 := Lib.hid hch2
            have bB : Below wr.heap.size wr (wr.alloc (.cells #[.int .i64 k] 2)) := kAlloc (Below.refl _ _) _
            have Hnews : Hid (∀ j u, (flatIn P.reverse)[j]? = some u → (wr.alloc (.cells #[.int .i64 k] 2)).cell? (ad.add j) = some u) := Lib.hid (fun j u hu => by
              have h := hnews.out j u hu
              exact (bB.cell (World.block_lt_of_cell? wr _ h)).trans h)
            have hwb := hbr.size
            clear hf hch hch2 hnews hsl
            go_wp2_with (at_builtin; refine wpList_append_own _ rfl _ _ 45 rfl w2.heap.size 2 i0 _ 1 8 Tryd.underlying45 Hi.out Hz0.out Hz1.out Hz2.out rfl (by decide) (.slice (some ⟨wr.heap.size, 0, none⟩) 1 1) 1 [.int .i64 k] rfl (owns_one hwb (heap_alloc_new _ _)) ad P.length oc (flatIn P.reverse) rfl (by rw [flatIn_length, List.length_reverse]; omega) Hnews.out (flatIn_one _) ?qc4 ?qc5 ?qc6 ?_)
            case qc4 => unfold maxLen; omega
            case qc5 => omega
            case qc6 => simp; omega
            intro v6 w6 hown6 hgr hnil
            have hown7 : w6.ownsRow w2.heap.size 2 1 v6 (1 + P.length) (flatIn (P ++ [(k : Int)]).reverse) := by rw [List.reverse_append]; exact hown6
            have T6 : Below w2.heap.size w2 w6 := grown_below (v := .slice (some ⟨wr.heap.size, 0, none⟩) 1 1) (by repeat (first | with_reducible exact Below.refl _ _ | (with_reducible refine kSet ?_ ?hB _; case hB => (simp; try omega)) | with_reducible refine kAlloc ?_ _ | with_reducible refine Below.drew ?_ | with_reducible refine kDrewN ?_ _ | with_reducible refine kTrans ?_ (by assumption))) hgr (by intro q hq; simp [Value.ownBlock] at hq; omega)
            have hs6 := SlWIn.of_owns hown7
            obtain ⟨g6, o6, c6, rfl, hin6⟩ := ins_form hs6 (by simp)
            have Hn6 := Lib.hid hin6.news
            have hl6 : (P ++ [(k : Int)]).reverse.length = (P ++ [(k : Int)]).length := by simp
            rw [hl6] at hs6 ⊢
            have Hs6 := Lib.hid hs6
            obtain ⟨f0, f1, f2⟩ := (Hfl.out.below T6 hgl) k hkl
            rw [hfe] at f0 f1 f2
            clear hown6 hown7 hgr hnil hin6 hs6 hkf hfe Hnews bB hwb hl6
            go_wp2
            go_roundg (L'.length)
            case measure => rw [← hr]; simp
            case rel => exact ⟨f'.who, P ++ [(k : Int)], L', ⟨g6, o6, none⟩, c6, rfl, rfl, rfl, hf2, Hch2, Hs6, Hn6, T6⟩
    · obtain rfl : (2 : Int) = C := by rw [← HC.out]; unfold causeC; rw [if_pos rfl, if_neg (by rw [hlm]; exact hin)]
      obtain rfl : L = [] := HP.out.2.1 (by rw [HC.out]; decide)
      clear HC HP H2
      go_wp2_with fail
      refine (l00In_no _ _ _ _ (by omega)).mono ?_
      rintro e w1' ⟨rfl, rfl⟩
      go_wp2
      exact bodyPost_ret (v := .tuple #[.slice (some ⟨w1.heap.size, 0, none⟩) 0 0, .int .i64 2]) (by simp [results, Tryd.results38, go_sem]) rfl ⟨_, rfl, .empty _ _ rfl, by repeat (first | with_reducible exact Below.refl _ _ | (with_reducible refine kSet ?_ ?hB _; case hB => (simp; try omega)) | with_reducible refine kAlloc ?_ _ | with_reducible refine Below.drew ?_ | with_reducible refine kDrewN ?_ _ | with_reducible refine kTrans ?_ (by assumption))⟩
end Go.Proofs.YtmabcfepkcpcoaaDoor
