/- Spans: whether they are some; ValidSpans, both sides. -/
import Derived.Test.YtbnogkkaldamdaaSq
import Derived.Test.YtbnogkkaldamdaaG2
namespace Go.Proofs.Ytbnogkkaldamdaa
open Go.ChangeShapes Go.WideShapes Go.ChangeAt Go.RowKit Go.Joins Go.Deep
set_option linter.unusedVariables false
set_option linter.unusedSimpArgs false
def spanB (p : Sq) : Bool := decide (1 ≤ p.low ∧ p.low ≤ p.high ∧ p.high ≤ 9)
def spansB (l : List Sq) : Bool := l.all spanB
theorem spansB_step {l : List Sq} {k : Nat} (h : k < l.length) : spansB (l.drop k) = (spanB l[k] && spansB (l.drop (k + 1))) := by
  unfold spansB
  rw [List.drop_eq_getElem_cons h, List.all_cons]
theorem areBounds_any (a b : Int) (w : World) (R : Bool) (hR : decide (1 ≤ a ∧ a ≤ b ∧ b ≤ 9) = R) :
    Calls Try.prog 56 #[.int .i64 a, .int .i64 b] w fun e w' => e = .returned (.bool R) ∧ w = w' := by
  by_cases h1 : 1 ≤ a
  · by_cases h2 : a ≤ b
    · by_cases h3 : b ≤ 9
      · obtain rfl : R = true := by rw [← hR]; simp [h1, h2, h3]
        clear hR
        go_enter Try.func56, Try.ntmps56
        go_wp2
        go_ret
        exact ⟨rfl, rfl⟩
      · obtain rfl : R = false := by rw [← hR]; simp [h3]
        have h3' : decide (b ≤ 9) = false := by simp; omega
        clear hR h3
        go_enter Try.func56, Try.ntmps56
        go_wp2
        go_ret
        exact ⟨rfl, rfl⟩
    · obtain rfl : R = false := by rw [← hR]; simp [h2]
      have h2' : decide (a ≤ b) = false := by simp; omega
      clear hR h2
      go_enter Try.func56, Try.ntmps56
      go_wp2
      go_ret
      exact ⟨rfl, rfl⟩
  · obtain rfl : R = false := by rw [← hR]; simp [h1]
    have h1' : decide (1 ≤ a) = false := by simp; omega
    clear hR h1
    go_enter Try.func56, Try.ntmps56
    go_wp2
    go_ret
    exact ⟨rfl, rfl⟩
set_option maxRecDepth 100000 in
set_option maxHeartbeats 4000000 in
theorem areSpans_eq (b n : Nat) (l : List Sq) (w : World) (hn : l.length = n) (h1 : SqsAt w b 0 l) (hb : b < w.heap.size) (h8 : SqsWf l) (hmax : n ≤ 1048576) (R : Bool) (hR : spansB l = R) :
    Calls Try.prog 55 #[.slice (some ⟨b, 0, none⟩) n n] w fun e w' => e = .returned (.bool R) ∧ Below w.heap.size w w' := by
  have Hn := Lib.hid hn
  have H8 := Lib.hid h8
  have HR : Hid (spansB (l.drop 0) = R) := Lib.hid hR
  clear hn h8 hR
  go_enter Try.func55, Try.ntmps55
  go_wp2
  go_loopw [7] (fun i wr => ∃ k : Nat, k ≤ n ∧ i = .int .i64 k ∧ Hid (spansB (l.drop k) = R) ∧ Below w.heap.size w wr) (fun i _ => n - (intOf i).toNat)
  case atStart => exact ⟨0, by omega, rfl, HR, Below.refl _ _⟩
  case round =>
    clear HR
    obtain ⟨k, hk, rfl, hf, hbr⟩ := hrel
    by_cases hlt : k < n
    · have hlk : k < l.length := by rw [Hn.out]; exact hlt
      have hp1 := (h1.below hbr hb) k hlk
      have hp8 := H8.out _ (List.getElem_mem hlk)
      have hq := hf.out
      rw [spansB_step hlk] at hq
      generalize l[k] = p at hp1 hp8 hq
      have z1 : b < wr.heap.size := Nat.lt_of_lt_of_le hb hbr.size
      obtain ⟨r, hr⟩ : ∃ r, spanB p = r := ⟨_, rfl⟩
      rw [hr] at hq
      have HC := Lib.hid (fun W => areBounds_any p.low p.high W r hr)
      have HQ := Lib.hid hq
      clear hf hq hr h1
      obtain ⟨a0, a1⟩ := hp1
      simp only [Nat.zero_add] at a0 a1
      have bl := bounds_i8 hp8.1
      have bh := bounds_i8 hp8.2
      cases r with
      | true =>
        have HQ2 : Hid (spansB (l.drop (k + 1)) = R) := Lib.hid (by have h := HQ.out; simpa using h)
        clear HQ
        go_wp2_with fail
        refine (HC.out _).mono ?_
        rintro e w2 ⟨rfl, rfl⟩
        go_wp2
        exact ⟨⟨k + 1, by omega, by go_num, HQ2, by repeat (first | with_reducible exact Below.refl _ _ | (with_reducible refine kSet ?_ ?hB _; case hB => (simp; try omega)) | with_reducible refine kAlloc ?_ _ | with_reducible refine Below.drew ?_ | with_reducible refine kDrewN ?_ _ | with_reducible refine kTrans ?_ (by assumption))⟩, by simp [intOf]; omega⟩
      | false =>
        obtain rfl : R = false := by have h := HQ.out; simpa using h.symm
        clear HQ
        go_wp2_with fail
        refine (HC.out _).mono ?_
        rintro e w2 ⟨rfl, rfl⟩
        go_wp2
        go_ret
        exact ⟨rfl, by repeat (first | with_reducible exact Below.refl _ _ | (with_reducible refine kSet ?_ ?hB _; case hB => (simp; try omega)) | with_reducible refine kAlloc ?_ _ | with_reducible refine Below.drew ?_ | with_reducible refine kDrewN ?_ _ | with_reducible refine kTrans ?_ (by assumption))⟩
    · obtain rfl : k = n := by omega
      obtain rfl : R = true := by rw [← hf.out, List.drop_of_length_le (by rw [Hn.out]; exact Nat.le_refl _)]; rfl
      clear hf
      go_wp2
      go_ret
      exact ⟨rfl, hbr⟩
theorem areSpansOf_any (pv : Option Addr) (pc : Nat) (b n c : Nat) (l : List Sq) (w : World) (hn : l.length = n) (h1 : SqsAt w b 0 l) (hb : b < w.heap.size) (h8 : SqsWf l) (hmax : n ≤ 1048576) (hc : c ≤ 1048576) (R : Bool) (hR : (decide (n = c) && spansB l) = R) :
    Calls Try.prog 50 #[.slice pv c pc, .slice (some ⟨b, 0, none⟩) n n] w fun e w' => e = .returned (.bool R) ∧ Below w.heap.size w w' := by
  by_cases h : n = c
  · subst h
    simp only [decide_true, Bool.true_and] at hR
    have HC := Lib.hid (areSpans_eq b n l w hn h1 hb h8 hmax R hR)
    clear hn h1 h8 hR
    go_enter Try.func50, Try.ntmps50
    go_wp2_with fail
    refine (HC.out).mono ?_
    rintro e w1 ⟨rfl, hb1⟩
    go_wp2
    go_ret
    exact ⟨rfl, hb1⟩
  · rw [decide_eq_false h, Bool.false_and] at hR
    subst hR
    have hne2 : ((n : Int) == (c : Int)) = false := by simpa using (fun e => h (by omega))
    have hne3 : ¬ n = c := h
    clear hn h1 h8
    go_enter Try.func50, Try.ntmps50
    go_wp2
    go_ret
    exact ⟨rfl, Below.refl _ _⟩
theorem l06Span_any (p : Sq) (w : World) (hp : p.wf) (R : Bool) (hR : spanB p = R) :
    Calls Try.prog 92 #[.agg #[.int .i8 p.low, .int .i8 p.high]] w fun e w' => e = .returned (.bool R) ∧ Below w.heap.size w w' := by
  have bl := bounds_i8 hp.1
  have bh := bounds_i8 hp.2
  obtain ⟨a, b⟩ := p
  simp only [spanB] at hR bl bh ⊢
  by_cases h1 : 1 ≤ a ∧ a ≤ b
  · by_cases h3 : b ≤ 9
    · obtain rfl : R = true := by rw [← hR]; simp [h1, h3]
      clear hR
      go_enter Try.func92, Try.ntmps92
      go_wp2_with fail
      refine (l00In_any a 1 b _ true (by simp; omega)).mono ?_
      rintro e w1 ⟨rfl, rfl⟩
      go_wp2
      go_ret
      exact ⟨rfl, by repeat (first | with_reducible exact Below.refl _ _ | (with_reducible refine kSet ?_ ?hB _; case hB => (simp; try omega)) | with_reducible refine kAlloc ?_ _ | with_reducible refine Below.drew ?_ | with_reducible refine kDrewN ?_ _ | with_reducible refine kTrans ?_ (by assumption))⟩
    · obtain rfl : R = false := by rw [← hR]; simp [h3]
      have h3' : decide (b ≤ 9) = false := by simp; omega
      clear hR
      go_enter Try.func92, Try.ntmps92
      go_wp2_with fail
      refine (l00In_any a 1 b _ true (by simp; omega)).mono ?_
      rintro e w1 ⟨rfl, rfl⟩
      go_wp2
      go_ret
      exact ⟨rfl, by repeat (first | with_reducible exact Below.refl _ _ | (with_reducible refine kSet ?_ ?hB _; case hB => (simp; try omega)) | with_reducible refine kAlloc ?_ _ | with_reducible refine Below.drew ?_ | with_reducible refine kDrewN ?_ _ | with_reducible refine kTrans ?_ (by assumption))⟩
  · obtain rfl : R = false := by rw [← hR]; simp; intro h2 h4; exact absurd ⟨h2, h4⟩ h1
    clear hR
    go_enter Try.func92, Try.ntmps92
    go_wp2_with fail
    refine (l00In_any a 1 b _ false (by simp; omega)).mono ?_
    rintro e w1 ⟨rfl, rfl⟩
    go_wp2
    go_ret
    exact ⟨rfl, by repeat (first | with_reducible exact Below.refl _ _ | (with_reducible refine kSet ?_ ?hB _; case hB => (simp; try omega)) | with_reducible refine kAlloc ?_ _ | with_reducible refine Below.drew ?_ | with_reducible refine kDrewN ?_ _ | with_reducible refine kTrans ?_ (by assumption))⟩
set_option maxRecDepth 100000 in
set_option maxHeartbeats 4000000 in
theorem l06Spans_any (b n : Nat) (l : List Sq) (w : World) (hn : l.length = n) (h1 : SqsAt w b 0 l) (hb : b < w.heap.size) (h8 : SqsWf l) (hmax : n ≤ 1048576) (R : Bool) (hR : spansB l = R) :
    Calls Try.prog 53 #[.slice (some ⟨b, 0, none⟩) n n] w fun e w' => e = .returned (.bool R) ∧ Below w.heap.size w w' := by
  have Hn := Lib.hid hn
  have H8 := Lib.hid h8
  have HR : Hid (spansB (l.drop 0) = R) := Lib.hid hR
  clear hn h8 hR
  go_enter Try.func53, Try.ntmps53
  go_wp2
  go_loopw [3] (fun i wr => ∃ k : Nat, k ≤ n ∧ i = .int .i64 k ∧ Hid (spansB (l.drop k) = R) ∧ Below w.heap.size w wr) (fun i _ => n - (intOf i).toNat)
  case atStart => exact ⟨0, by omega, rfl, HR, Below.refl _ _⟩
  case round =>
    clear HR
    obtain ⟨k, hk, rfl, hf, hbr⟩ := hrel
    by_cases hlt : k < n
    · have hlk : k < l.length := by rw [Hn.out]; exact hlt
      have hp1 := (h1.below hbr hb) k hlk
      have hp8 := H8.out _ (List.getElem_mem hlk)
      have hq := hf.out
      rw [spansB_step hlk] at hq
      generalize l[k] = p at hp1 hp8 hq
      have z1 : b < wr.heap.size := Nat.lt_of_lt_of_le hb hbr.size
      obtain ⟨r, hr⟩ : ∃ r, spanB p = r := ⟨_, rfl⟩
      rw [hr] at hq
      have HC := Lib.hid (fun W => l06Span_any p W hp8 r hr)
      have HQ := Lib.hid hq
      clear hf hq hr h1 hp8
      obtain ⟨a0, a1⟩ := hp1
      simp only [Nat.zero_add] at a0 a1
      cases r with
      | true =>
        have HQ2 : Hid (spansB (l.drop (k + 1)) = R) := Lib.hid (by have h := HQ.out; simpa using h)
        clear HQ
        go_wp2_with fail
        refine (HC.out _).mono ?_
        rintro e w2 ⟨rfl, hb2⟩
        go_wp2
        exact ⟨⟨k + 1, by omega, by go_num, HQ2, kTrans hbr hb2⟩, by simp [intOf]; omega⟩
      | false =>
        obtain rfl : R = false := by have h := HQ.out; simpa using h.symm
        clear HQ
        go_wp2_with fail
        refine (HC.out _).mono ?_
        rintro e w2 ⟨rfl, hb2⟩
        go_wp2
        go_ret
        exact ⟨rfl, kTrans hbr hb2⟩
    · obtain rfl : k = n := by omega
      obtain rfl : R = true := by rw [← hf.out, List.drop_of_length_le (by rw [Hn.out]; exact Nat.le_refl _)]; rfl
      clear hf
      go_wp2
      go_ret
      exact ⟨rfl, hbr⟩
set_option maxRecDepth 100000 in
set_option maxHeartbeats 4000000 in
theorem implValidSpans_any (b m cap : Nat) (wd hi : Int) (lb : List Pc) (pb n : Nat) (l : List Sq) (w : World) (hm : lb.length = m) (hq : PcsAt w b 0 lb) (hbb : b < w.heap.size) (hcap : m ≤ cap) (h8 : All8 lb) (hw8 : i8 wd) (hh8 : i8 hi) (hmm : m ≤ 1048576)
    (hn : l.length = n) (hp : SqsAt w pb 0 l) (hb : pb < w.heap.size) (hw : SqsWf l) (hmax : n ≤ 1048576) (Rb Rs R : Bool) (hRb : Rb = boardOk wd hi lb) (hRs : spansB l = Rs) (hR : (Rb && (decide (n = m) && Rs)) = R) :
    Calls Try.prog 14 #[.agg #[.int .i8 wd, .int .i8 hi, .slice (some ⟨b, 0, none⟩) m cap], .slice (some ⟨pb, 0, none⟩) n n] w fun e w' => e = .returned (.bool R) ∧ Below w.heap.size w w' := by
  have hk : Below w.heap.size w (w.alloc (.cells #[.int .i8 wd, .int .i8 hi, .slice (some ⟨b, 0, none⟩) m cap] 32)) := by repeat (first | with_reducible exact Below.refl _ _ | (with_reducible refine kSet ?_ ?hB _; case hB => (simp; try omega)) | with_reducible refine kAlloc ?_ _ | with_reducible refine Below.drew ?_ | with_reducible refine kDrewN ?_ _ | with_reducible refine kTrans ?_ (by assumption))
  have HX := Lib.hid (implValidBoard_any b 0 m cap wd hi lb _ hm (hq.below hk hbb) (Nat.lt_of_lt_of_le hbb hk.size) hcap h8 hmm Rb hRb)
  have HS := Lib.hid (fun W (h : Below w.heap.size w W) => areSpansOf_any (some ⟨b, 0, none⟩) cap pb n m l W hn (hp.below h hb) (Nat.lt_of_lt_of_le hb h.size) hw hmax hmm (decide (n = m) && Rs) (by rw [hRs]))
  clear hm hq hn hp hRb hRs h8 hw
  have bx := BdAt.box w wd hi (.slice (some ⟨b, 0, none⟩) m cap) 32
  cases Rb with
  | false =>
    obtain rfl : R = false := by rw [← hR]; rfl
    clear bx HS hR
    go_enter Try.func14, Try.ntmps14
    go_wp2_with fail
    refine HX.out.mono ?_
    rintro e w1 ⟨rfl, hb1⟩
    go_wp2
    go_ret
    exact ⟨rfl, kTrans hk hb1⟩
  | true =>
    obtain ⟨Ra, hRa⟩ : ∃ Ra, (decide (n = m) && Rs) = Ra := ⟨_, rfl⟩
    rw [hRa] at HS hR
    obtain rfl : Ra = R := by rw [← hR]; simp
    clear hRa hR
    go_enter Try.func14, Try.ntmps14
    go_wp2_with fail
    refine HX.out.mono ?_
    rintro e w1 ⟨rfl, hb1⟩
    obtain ⟨c0, c1, c2⟩ := bx.below hb1 (by simp)
    have HT := Lib.hid (kTrans hk hb1)
    have HS2 := Lib.hid (HS.out _ HT.out)
    have hz : w.heap.size < w1.heap.size := by have := hb1.size; simp at this; omega
    clear HX HS hk hb1 bx
    go_wp2_with fail
    refine HS2.out.mono ?_
    rintro e w2 ⟨rfl, hb2⟩
    go_wp2
    go_ret
    exact ⟨rfl, kTrans HT.out hb2⟩
set_option maxRecDepth 100000 in
set_option maxHeartbeats 4000000 in
theorem l06Ok_any (bb b m cap : Nat) (wd hi : Int) (lb : List Pc) (pb n : Nat) (l : List Sq) (w : World) (hm : lb.length = m) (hbd : BdAt w bb 0 wd hi (.slice (some ⟨b, 0, none⟩) m cap)) (hq : PcsAt w b 0 lb) (hbb : b < w.heap.size) (hcap : m ≤ cap) (h8 : All8 lb) (hw8 : i8 wd) (hh8 : i8 hi) (hmm : m ≤ 1048576)
    (hn : l.length = n) (hp : SqsAt w pb 0 l) (hb : pb < w.heap.size) (hw : SqsWf l) (hmax : n ≤ 1048576) (Rb Rs R : Bool) (hRb : Rb = boardOk wd hi lb) (hRs : spansB l = Rs) (hR : (Rb && (decide (n = m) && Rs)) = R) :
    Calls Try.prog 46 #[.pointer (some ⟨bb, 0, none⟩), .slice (some ⟨pb, 0, none⟩) n n] w fun e w' => e = .returned (.bool R) ∧ Below w.heap.size w w' := by
  have hlb := hbd.lt
  have HX := Lib.hid (l01Ok_any bb 0 b 0 m cap wd hi lb w hm hbd hq hbb hcap h8 hw8 hh8 hmm Rb hRb)
  have HS := Lib.hid (fun W (h : Below w.heap.size w W) => l06Spans_any pb n l W hn (hp.below h hb) (Nat.lt_of_lt_of_le hb h.size) hw hmax Rs hRs)
  clear hm hq hn hp hRb hRs h8 hw
  cases Rb with
  | false =>
    obtain rfl : R = false := by rw [← hR]; rfl
    clear HS hR hbd
    go_enter Try.func46, Try.ntmps46
    go_wp2_with fail
    refine HX.out.mono ?_
    rintro e w1 ⟨rfl, hb1⟩
    go_wp2
    go_ret
    exact ⟨rfl, hb1⟩
  | true =>
    by_cases he : n = m
    · subst he
      obtain rfl : Rs = R := by rw [← hR]; simp
      clear hR
      go_enter Try.func46, Try.ntmps46
      go_wp2_with fail
      refine HX.out.mono ?_
      rintro e w1 ⟨rfl, hb1⟩
      obtain ⟨c0, c1, c2⟩ := hbd.below hb1 hlb
      have hl2 : bb < w1.heap.size := Nat.lt_of_lt_of_le hlb hb1.size
      have HS2 := Lib.hid (HS.out _ hb1)
      clear HX HS hbd
      go_wp2_with fail
      refine HS2.out.mono ?_
      rintro e w2 ⟨rfl, hb2⟩
      go_wp2
      go_ret
      exact ⟨rfl, kTrans hb1 hb2⟩
    · obtain rfl : R = false := by rw [← hR]; simp [he]
      have hne : ((n : Int) == (m : Int)) = false := by simpa using (fun e => he (by omega))
      have hne3 : ¬ n = m := he
      clear hR HS
      go_enter Try.func46, Try.ntmps46
      go_wp2_with fail
      refine HX.out.mono ?_
      rintro e w1 ⟨rfl, hb1⟩
      obtain ⟨c0, c1, c2⟩ := hbd.below hb1 hlb
      have hl2 : bb < w1.heap.size := Nat.lt_of_lt_of_le hlb hb1.size
      clear HX hbd
      go_wp2
      go_ret
      exact ⟨rfl, hb1⟩
theorem specValidSpans_any (b m cap : Nat) (wd hi : Int) (lb : List Pc) (pb n : Nat) (l : List Sq) (w : World) (hm : lb.length = m) (hq : PcsAt w b 0 lb) (hbb : b < w.heap.size) (hcap : m ≤ cap) (h8 : All8 lb) (hw8 : i8 wd) (hh8 : i8 hi) (hmm : m ≤ 1048576)
    (hn : l.length = n) (hp : SqsAt w pb 0 l) (hb : pb < w.heap.size) (hw : SqsWf l) (hmax : n ≤ 1048576) (Rb Rs R : Bool) (hRb : Rb = boardOk wd hi lb) (hRs : spansB l = Rs) (hR : (Rb && (decide (n = m) && Rs)) = R) :
    Calls Try.prog 11 #[.agg #[.int .i8 wd, .int .i8 hi, .slice (some ⟨b, 0, none⟩) m cap], .slice (some ⟨pb, 0, none⟩) n n] w fun e w' => e = .returned (.bool R) ∧ Below w.heap.size w w' := by
  have hk : Below w.heap.size w (w.alloc (.cells #[.int .i8 wd, .int .i8 hi, .slice (some ⟨b, 0, none⟩) m cap] 32)) := by repeat (first | with_reducible exact Below.refl _ _ | (with_reducible refine kSet ?_ ?hB _; case hB => (simp; try omega)) | with_reducible refine kAlloc ?_ _ | with_reducible refine Below.drew ?_ | with_reducible refine kDrewN ?_ _ | with_reducible refine kTrans ?_ (by assumption))
  have HX := Lib.hid (l06Ok_any w.heap.size b m cap wd hi lb pb n l _ hm (BdAt.box w wd hi (.slice (some ⟨b, 0, none⟩) m cap) 32) (hq.below hk hbb) (Nat.lt_of_lt_of_le hbb hk.size) hcap h8 hw8 hh8 hmm hn (hp.below hk hb) (Nat.lt_of_lt_of_le hb hk.size) hw hmax Rb Rs R hRb hRs hR)
  clear hm hq hn hp hRb hRs h8 hw hR
  go_enter Try.func11, Try.ntmps11
  go_wp2_with fail
  refine HX.out.mono ?_
  rintro e w1 ⟨rfl, hb1⟩
  go_wp2
  go_ret
  exact ⟨rfl, kTrans hk hb1⟩
end Go.Proofs.Ytbnogkkaldamdaa
