/- LastTick: the program and the model. -/
import Derived.Test.YtmabcfepkcpcoaaDoorG11
namespace Go.Proofs.YtmabcfepkcpcoaaDoor
open Go.ChangeShapes Go.WideShapes Go.ChangeAt Go.RowKit Go.Shelf
set_option linter.unusedVariables false
set_option linter.unusedSimpArgs false

/-- the greatest tick -/
def lastL : List Fl → Int → Int
  | [], a => a
  | f :: l, a => lastL l (if a < f.tick then f.tick else a)
theorem lastL_ge : ∀ (l : List Fl) (a : Int), a ≤ lastL l a
  | [], a => Int.le_refl _
  | f :: l, a => by
    have := lastL_ge l (if a < f.tick then f.tick else a)
    unfold lastL
    split at this <;> rename_i h
    · rw [if_pos h]; omega
    · rw [if_neg h]; omega
def lastQ (R : Bool) (lr : List Fl) : Int × Int := if R = true then (if lastL lr (-1) = -1 then (0, 6) else (lastL lr (-1), 0)) else (0, 1)
theorem pair_ii {a b c d : Int} (h : (a, b) = (c, d)) : a = c ∧ b = d := by injection h with h1 h2; exact ⟨h1, h2⟩
set_option maxRecDepth 100000 in
set_option maxHeartbeats 4000000 in
theorem implLastTick_any (b m cap : Nat) (wd hi : Int) (lb : List Pc) (pb n : Nat) (l : List Pu) (w : World) (hm : lb.length = m) (hq : PcsAt w b 0 lb) (hbb : b < w.heap.size) (hcap : m ≤ cap) (h8 : All8 lb) (hmm : m ≤ 1048576)
    (hn : l.length = n) (hp : PusAt w pb 0 l) (hb : pb < w.heap.size) (hw : PusWf l) (hmax : n ≤ 1048576) (R : Bool) (hR : R = (boardOk wd hi lb && pushesOk lb l)) (hst : StayAt w) (lr : List Fl) (hlr : RunsTo R lb l lr) (hlen : lr.length ≤ 200) (T C : Int) (hQ : lastQ R lr = (T, C)) :
    Calls Tryd.prog 37 #[.agg #[.int .i8 wd, .int .i8 hi, .slice (some ⟨b, 0, none⟩) m cap], .slice (some ⟨pb, 0, none⟩) n n] w fun e w' => e = .returned (.tuple #[.int .i64 T, .int .i64 C]) ∧ Below w.heap.size w w' := by
  have hk : Below w.heap.size w (w.alloc (.cells #[.int .i8 wd, .int .i8 hi, .slice (some ⟨b, 0, none⟩) m cap] 34)) := by repeat (first | with_reducible exact Below.refl _ _ | (with_reducible refine kSet ?_ ?hB _; case hB => (simp; try omega)) | with_reducible refine kAlloc ?_ _ | with_reducible refine Below.drew ?_ | with_reducible refine kDrewN ?_ _ | with_reducible refine kTrans ?_ (by assumption))
  have hk1 : (w.alloc (.cells #[.int .i8 wd, .int .i8 hi, .slice (some ⟨b, 0, none⟩) m cap] 34)).heap.size = w.heap.size + 1 := by simp
  have HX := Lib.hid (fun C' (hC : (R = true → C' = 0) ∧ (R = false → C' = 1)) => implRunBoard_any b 0 m cap wd hi lb pb n l _ hm (hq.below hk hbb) (Nat.lt_of_lt_of_le hbb hk.size) hcap h8 hmm hn (hp.below hk hb) (Nat.lt_of_lt_of_le hb hk.size) hw hmax R hR (hst.below hk) lr hlr C' hC)
  have HS := Lib.hid (fun w1 (h : Below w.heap.size w w1) => hst.below h)
  have HQ := Lib.hid hQ
  clear hm hq hn hp hR h8 hw hst hlr hQ
  cases R with
  | false =>
    obtain ⟨rfl, rfl⟩ := pair_ii (show ((0 : Int), (1 : Int)) = (T, C) from HQ.out)
    have H1 := Lib.hid (HX.out 1 ⟨fun h => (by cases h), fun _ => rfl⟩)
    clear HX HQ
    go_enter Tryd.func37, Tryd.ntmps37
    go_wp2_with fail
    refine H1.out.mono ?_
    rintro e w1 ⟨v, rfl, hv, hb1⟩
    obtain ⟨a, c, rfl⟩ := hv.form
    clear hv H1
    go_wp2
    exact bodyPost_ret (v := .tuple #[.int .i64 0, .int .i64 1]) (by simp [results, Tryd.results37, go_sem]) rfl ⟨rfl, by repeat (first | with_reducible exact Below.refl _ _ | (with_reducible refine kSet ?_ ?hB _; case hB => (simp; try omega)) | with_reducible refine kAlloc ?_ _ | with_reducible refine Below.drew ?_ | with_reducible refine kDrewN ?_ _ | with_reducible refine kTrans ?_ (by assumption))⟩
  | true =>
    obtain ⟨L, hL⟩ : ∃ L, lastL lr (-1) = L := ⟨_, rfl⟩
    have HL : Hid (lastL (lr.drop 0) (-1) = L) := Lib.hid (by rw [List.drop_zero]; exact hL)
    have hQ2 : (if L = -1 then ((0 : Int), (6 : Int)) else (L, 0)) = (T, C) := by rw [← hL]; exact HQ.out
    have HQ2 := Lib.hid hQ2
    have hge := lastL_ge lr (-1)
    rw [hL] at hge
    have H1 := Lib.hid (HX.out 0 ⟨fun _ => rfl, fun h => by cases h⟩)
    clear HX HQ hQ2 hL
    go_enter Tryd.func37, Tryd.ntmps37
    go_wp2_with fail
    refine H1.out.mono ?_
    rintro e w1 ⟨v, rfl, hv, hb1⟩
    have hb01 := kTrans hk hb1
    obtain ⟨⟨y0, y1, y2⟩, hz⟩ := HS.out w1 hb01
    simp only [stay, Nat.zero_add] at y0 y1 y2
    cases hv with
    | empty a c h =>
      subst h
      have hL1 : L = -1 := HL.out.symm
      subst hL1
      obtain ⟨rfl, rfl⟩ := pair_ii (show ((0 : Int), (6 : Int)) = (T, C) from HQ2.out)
      clear H1 HL HQ2 HS hb1
      go_wp2
      refine wp_loop_rounds 1 ?_
      rw [rounds_succ]
      go_wp2
      exact bodyPost_ret (v := .tuple #[.int .i64 0, .int .i64 6]) (by simp [results, Tryd.results37, go_sem]) rfl ⟨rfl, by repeat (first | with_reducible exact Below.refl _ _ | (with_reducible refine kSet ?_ ?hB _; case hB => (simp; try omega)) | with_reducible refine kAlloc ?_ _ | with_reducible refine Below.drew ?_ | with_reducible refine kDrewN ?_ _ | with_reducible refine kTrans ?_ (by assumption))⟩
    | mk g o c hc h1 h2 hg hf hle =>
      obtain ⟨nr, hnr⟩ : ∃ nr, lr.length = nr := ⟨_, rfl⟩
      rw [hnr] at hlen hle ⊢
      have Hnr := Lib.hid hnr
      have Hc := Lib.hid hc
      clear H1 hb1 hf h1 h2 hc hnr y1 y2
      go_wp2
      clear y0
      go_loopw [8, 24] (fun v i wr => ∃ k : Nat, k ≤ nr ∧ i = .int .i64 k ∧ ∃ a : Int, v = .int .i64 a ∧ Hid (lastL (lr.drop k) a = L) ∧ Below w1.heap.size w1 wr) (fun _ i _ => nr - (intOf i).toNat)
      case atStart => exact ⟨0, by omega, rfl, -1, rfl, HL, Below.refl _ _⟩
      case round =>
        clear HL
        obtain ⟨k, hk', rfl, a, rfl, hl, hbr⟩ := hrel
        by_cases hlt : k < nr
        · have hlk : k < lr.length := by rw [Hnr.out]; exact hlt
          obtain ⟨f0, f1, f2⟩ := (Hc.out.below hbr hg) k hlk
          have hd : lr.drop k = lr[k] :: lr.drop (k + 1) := List.drop_eq_getElem_cons hlk
          generalize lr[k] = p at f0 f1 f2 hd
          have hl2 : Hid (lastL (lr.drop (k + 1)) (if a < p.tick then p.tick else a) = L) := Lib.hid (by have := hl.out; rw [hd] at this; exact this)
          clear hd hl
          by_cases hmx : a < p.tick
          · rw [if_pos hmx] at hl2
            go_wp2
            exact ⟨⟨k + 1, by omega, by go_num, p.tick, by congr 1; omega, hl2, by repeat (first | with_reducible exact Below.refl _ _ | (with_reducible refine kSet ?_ ?hB _; case hB => (simp; try omega)) | with_reducible refine kAlloc ?_ _ | with_reducible refine Below.drew ?_ | with_reducible refine kDrewN ?_ _ | with_reducible refine kTrans ?_ (by assumption))⟩, by simp [intOf]; omega⟩
          · rw [if_neg hmx] at hl2
            go_wp2
            exact ⟨⟨k + 1, by omega, by go_num, a, by congr 1; omega, hl2, by repeat (first | with_reducible exact Below.refl _ _ | (with_reducible refine kSet ?_ ?hB _; case hB => (simp; try omega)) | with_reducible refine kAlloc ?_ _ | with_reducible refine Below.drew ?_ | with_reducible refine kDrewN ?_ _ | with_reducible refine kTrans ?_ (by assumption))⟩, by simp [intOf]; omega⟩
        · have hLa : a = L := by have := hl.out; rw [List.drop_of_length_le (by rw [Hnr.out]; omega)] at this; exact this
          have hbw := kTrans hb01 hbr
          obtain ⟨⟨y0, y1, y2⟩, _⟩ := HS.out wr hbw
          simp only [stay, Nat.zero_add] at y0 y1 y2
          subst hLa
          clear hl y1 y2 Hc
          by_cases hm1 : a = -1
          · have h2 := HQ2.out
            rw [if_pos hm1] at h2
            obtain ⟨rfl, rfl⟩ := pair_ii h2
            clear h2 HQ2
            subst hm1
            go_wp2
            exact bodyPost_ret (v := .tuple #[.int .i64 0, .int .i64 6]) (by simp [results, Tryd.results37, go_sem]) rfl ⟨rfl, hbw⟩
          · have h2 := HQ2.out
            rw [if_neg hm1] at h2
            obtain ⟨rfl, rfl⟩ := pair_ii h2
            clear h2 HQ2
            go_wp2
            exact bodyPost_ret (v := .tuple #[.int .i64 a, .int .i64 0]) (by simp [results, Tryd.results37, go_sem]) rfl ⟨rfl, hbw⟩
set_option maxHeartbeats 1000000 in
theorem l00Max_any (a b : Int) (w : World) : Calls Tryd.prog 72 #[.int .i64 a, .int .i64 b] w fun e w' => e = .returned (.int .i64 (if a < b then b else a)) ∧ w = w' := by
  by_cases h : a < b
  · rw [if_pos h]
    have h2 : ¬ b < a := by omega
    go_enter Tryd.func72, Tryd.ntmps72
    go_wp2
    go_ret
    exact ⟨rfl, rfl⟩
  · rw [if_neg h]
    by_cases h2 : b < a
    · go_enter Tryd.func72, Tryd.ntmps72
      go_wp2
      go_ret
      exact ⟨rfl, rfl⟩
    · obtain rfl : a = b := by omega
      go_enter Tryd.func72, Tryd.ntmps72
      go_wp2
      go_ret
      exact ⟨rfl, rfl⟩
set_option maxRecDepth 100000 in
set_option maxHeartbeats 4000000 in
theorem specLastTick_any (b m cap : Nat) (wd hi : Int) (lb : List Pc) (pb n : Nat) (l : List Pu) (w : World) (hm : lb.length = m) (hq : PcsAt w b 0 lb) (hbb : b < w.heap.size) (hcap : m ≤ cap) (h8 : All8 lb) (hw8 : i8 wd) (hh8 : i8 hi) (hmm : m ≤ 1048576)
    (hn : l.length = n) (hp : PusAt w pb 0 l) (hb : pb < w.heap.size) (hw : PusWf l) (hmax : n ≤ 1048576) (R : Bool) (hR : R = (boardOk wd hi lb && pushesOk lb l)) (lr : List Fl) (hlr : RunsTo R lb l lr) (hlen : lr.length ≤ 200) (T C : Int) (hQ : lastQ R lr = (T, C)) :
    Calls Tryd.prog 36 #[.agg #[.int .i8 wd, .int .i8 hi, .slice (some ⟨b, 0, none⟩) m cap], .slice (some ⟨pb, 0, none⟩) n n] w fun e w' => e = .returned (.tuple #[.int .i64 T, .int .i64 C]) ∧ Below w.heap.size w w' := by
  have hk : Below w.heap.size w (w.alloc (.cells #[.int .i8 wd, .int .i8 hi, .slice (some ⟨b, 0, none⟩) m cap] 34)) := by repeat (first | with_reducible exact Below.refl _ _ | (with_reducible refine kSet ?_ ?hB _; case hB => (simp; try omega)) | with_reducible refine kAlloc ?_ _ | with_reducible refine Below.drew ?_ | with_reducible refine kDrewN ?_ _ | with_reducible refine kTrans ?_ (by assumption))
  have hbx := BdAt.box w wd hi (.slice (some ⟨b, 0, none⟩) m cap) 34
  have HX := Lib.hid (fun C' (hC : (R = true → C' = 0) ∧ (R = false → C' = 1)) => l02Asked_any w.heap.size 0 b 0 m cap wd hi lb pb n l _ hm hbx (hq.below hk hbb) (Nat.lt_of_lt_of_le hbb hk.size) hcap h8 hw8 hh8 hmm hn (hp.below hk hb) (Nat.lt_of_lt_of_le hb hk.size) hw hmax R hR C' hC)
  have HQ := Lib.hid hQ
  cases R with
  | false =>
    obtain ⟨rfl, rfl⟩ := pair_ii (show ((0 : Int), (1 : Int)) = (T, C) from HQ.out)
    have H1 := Lib.hid (HX.out 1 ⟨fun h => (by cases h), fun _ => rfl⟩)
    clear hm hq hn hp hR h8 hw hbx hk hlr HX HQ hQ
    go_enter Tryd.func36, Tryd.ntmps36
    go_wp2_with fail
    refine H1.out.mono ?_
    rintro e w1 ⟨rfl, hb1⟩
    clear H1
    go_wp2
    exact bodyPost_ret (v := .tuple #[.int .i64 0, .int .i64 1]) (by simp [results, Tryd.results36, go_sem]) rfl ⟨rfl, by repeat (first | with_reducible exact Below.refl _ _ | (with_reducible refine kSet ?_ ?hB _; case hB => (simp; try omega)) | with_reducible refine kAlloc ?_ _ | with_reducible refine Below.drew ?_ | with_reducible refine kDrewN ?_ _ | with_reducible refine kTrans ?_ (by assumption))⟩
  | true =>
    obtain ⟨L, hL⟩ : ∃ L, lastL lr (-1) = L := ⟨_, rfl⟩
    have HL : Hid (lastL (lr.drop 0) (-1) = L) := Lib.hid (by rw [List.drop_zero]; exact hL)
    have hQ2 : (if L = -1 then ((0 : Int), (6 : Int)) else (L, 0)) = (T, C) := by rw [← hL]; exact HQ.out
    have HQ2 := Lib.hid hQ2
    have hge := lastL_ge lr (-1)
    rw [hL] at hge
    have H1 := Lib.hid (HX.out 0 ⟨fun _ => rfl, fun h => by cases h⟩)
    have HY := Lib.hid (fun w2 (h2 : Below (w.alloc (.cells #[.int .i8 wd, .int .i8 hi, .slice (some ⟨b, 0, none⟩) m cap] 34)).heap.size (w.alloc (.cells #[.int .i8 wd, .int .i8 hi, .slice (some ⟨b, 0, none⟩) m cap] 34)) w2) =>
      l02Run_to w.heap.size 0 b 0 m cap pb n wd hi lb l w2 hm (hbx.below h2 hbx.lt) ((hq.below hk hbb).below h2 (Nat.lt_of_lt_of_le hbb hk.size)) (Nat.lt_of_lt_of_le hbb (Nat.le_trans hk.size h2.size)) hcap hn ((hp.below hk hb).below h2 (Nat.lt_of_lt_of_le hb hk.size)) (Nat.lt_of_lt_of_le hb (Nat.le_trans hk.size h2.size)) hR lr hlr)
    clear hm hq hn hp hR h8 hw hbx hlr HX HQ hQ2 hL hQ
    go_enter Tryd.func36, Tryd.ntmps36
    go_wp2_with fail
    refine H1.out.mono ?_
    rintro e w1 ⟨rfl, hb1⟩
    have hb01 := kTrans hk hb1
    have H2 := Lib.hid (HY.out w1 hb1)
    clear HY H1 hb1 hk
    go_wp2_with fail
    refine H2.out.mono ?_
    rintro e w2 ⟨v, rfl, hv, hb2⟩
    have hb02 := kTrans hb01 hb2
    clear H2 hb01 hb2
    cases hv with
    | empty a c h =>
      subst h
      have hL1 : L = -1 := HL.out.symm
      subst hL1
      obtain ⟨rfl, rfl⟩ := pair_ii (show ((0 : Int), (6 : Int)) = (T, C) from HQ2.out)
      clear HL HQ2
      go_wp2
      refine wp_loop_rounds 1 ?_
      rw [rounds_succ]
      go_wp2
      exact bodyPost_ret (v := .tuple #[.int .i64 0, .int .i64 6]) (by simp [results, Tryd.results36, go_sem]) rfl ⟨rfl, hb02⟩
    | mk g o c hc h1 h2 hg hf hle =>
      obtain ⟨nr, hnr⟩ : ∃ nr, lr.length = nr := ⟨_, rfl⟩
      rw [hnr] at hlen hle ⊢
      have Hnr := Lib.hid hnr
      have Hc := Lib.hid hc
      clear hf h1 h2 hc hnr
      go_wp2
      go_loopw [8, 9] (fun v i wr => ∃ k : Nat, k ≤ nr ∧ i = .int .i64 k ∧ ∃ a : Int, v = .int .i64 a ∧ Hid (lastL (lr.drop k) a = L) ∧ Below w2.heap.size w2 wr) (fun _ i _ => nr - (intOf i).toNat)
      case atStart => exact ⟨0, by omega, rfl, -1, rfl, HL, Below.refl _ _⟩
      case round =>
        clear HL
        obtain ⟨k, hk', rfl, a, rfl, hl, hbr⟩ := hrel
        by_cases hlt : k < nr
        · have hlk : k < lr.length := by rw [Hnr.out]; exact hlt
          obtain ⟨f0, f1, f2⟩ := (Hc.out.below hbr hg) k hlk
          have hd : lr.drop k = lr[k] :: lr.drop (k + 1) := List.drop_eq_getElem_cons hlk
          generalize lr[k] = p at f0 f1 f2 hd
          have hl2 : Hid (lastL (lr.drop (k + 1)) (if a < p.tick then p.tick else a) = L) := Lib.hid (by have := hl.out; rw [hd] at this; exact this)
          clear hd hl
          go_wp2_with fail
          refine (l00Max_any a p.tick _).mono ?_
          rintro e w3 ⟨rfl, rfl⟩
          go_wp2
          exact ⟨⟨k + 1, by omega, by go_num, _, rfl, hl2, hbr⟩, by simp [intOf]; omega⟩
        · have hLa : a = L := by have := hl.out; rw [List.drop_of_length_le (by rw [Hnr.out]; omega)] at this; exact this
          have hbw := kTrans hb02 hbr
          subst hLa
          clear hl Hc
          by_cases hm1 : a = -1
          · have h2 := HQ2.out
            rw [if_pos hm1] at h2
            obtain ⟨rfl, rfl⟩ := pair_ii h2
            clear h2 HQ2
            subst hm1
            go_wp2
            exact bodyPost_ret (v := .tuple #[.int .i64 0, .int .i64 6]) (by simp [results, Tryd.results36, go_sem]) rfl ⟨rfl, hbw⟩
          · have h2 := HQ2.out
            rw [if_neg hm1] at h2
            obtain ⟨rfl, rfl⟩ := pair_ii h2
            have hn0 : ¬ a < 0 := by omega
            clear h2 HQ2
            go_wp2
            exact bodyPost_ret (v := .tuple #[.int .i64 a, .int .i64 0]) (by simp [results, Tryd.results36, go_sem]) rfl ⟨rfl, hbw⟩
end Go.Proofs.YtmabcfepkcpcoaaDoor
