/- ValidPushes: the model and the program. -/
import Derived.Test.YthancdlkkfegnaaVpI
namespace Go.Proofs.Ythancdlkkfegnaa
open Go.ChangeShapes Go.WideShapes Go.ChangeAt Go.RowKit
set_option linter.unusedVariables false

set_option maxRecDepth 100000 in
set_option maxHeartbeats 2000000 in
theorem specValidPushes_any (b m cap : Nat) (wd hi : Int) (lb : List Pc) (pb n : Nat) (l : List Pu) (w : World) (hm : lb.length = m) (hq : PcsAt w b 0 lb) (hbb : b < w.heap.size) (hcap : m ≤ cap) (h8 : All8 lb) (hw8 : i8 wd) (hh8 : i8 hi) (hmm : m ≤ 1048576)
    (hn : l.length = n) (hp : PusAt w pb 0 l) (hb : pb < w.heap.size) (hw : PusWf l) (hmax : n ≤ 1048576) (R : Bool) (hR : R = (boardOk wd hi lb && pushesOk lb l)) :
    Calls Try.prog 57 #[.agg #[.int .i8 wd, .int .i8 hi, .slice (some ⟨b, 0, none⟩) m cap], .slice (some ⟨pb, 0, none⟩) n n] w fun e w' => e = .returned (.bool R) ∧ Below w.heap.size w w' := by
  have hk : Below w.heap.size w (w.alloc (.cells #[.int .i8 wd, .int .i8 hi, .slice (some ⟨b, 0, none⟩) m cap] 30)) := by repeat (first | with_reducible exact Below.refl _ _ | (with_reducible refine kSet ?_ ?hB _; case hB => (simp; try omega)) | with_reducible refine kAlloc ?_ _ | with_reducible refine Below.drew ?_ | with_reducible refine kDrewN ?_ _ | with_reducible refine kTrans ?_ (by assumption))
  obtain ⟨Rb, hRb⟩ : ∃ Rb, Rb = boardOk wd hi lb := ⟨_, rfl⟩
  obtain ⟨Rp, hRp⟩ : ∃ Rp, Rp = pushesOk lb l := ⟨_, rfl⟩
  have hbx := BdAt.box w wd hi (.slice (some ⟨b, 0, none⟩) m cap) 30
  have HX := Lib.hid (l01Ok_any w.heap.size 0 b 0 m cap wd hi lb _ hm hbx (hq.below hk hbb) (Nat.lt_of_lt_of_le hbb hk.size) hcap h8 hw8 hh8 hmm Rb hRb)
  have HY := Lib.hid (fun w2 (h2 : Below (w.alloc (.cells #[.int .i8 wd, .int .i8 hi, .slice (some ⟨b, 0, none⟩) m cap] 30)).heap.size (w.alloc (.cells #[.int .i8 wd, .int .i8 hi, .slice (some ⟨b, 0, none⟩) m cap] 30)) w2) =>
    l02Ok_any w.heap.size 0 b 0 m cap wd hi lb pb n l w2 hm (hbx.below h2 hbx.lt) ((hq.below hk hbb).below h2 (Nat.lt_of_lt_of_le hbb hk.size)) (Nat.lt_of_lt_of_le hbb (Nat.le_trans hk.size h2.size)) hcap hmm hn ((hp.below hk hb).below h2 (Nat.lt_of_lt_of_le hb hk.size)) (Nat.lt_of_lt_of_le hb (Nat.le_trans hk.size h2.size)) hw hmax Rp hRp)
  have HR : Hid (R = (Rb && Rp)) := Lib.hid (by rw [hR, hRb, hRp])
  clear hbx hk hm hq hn hp hR hRb hRp h8 hw
  cases Rb with
  | false =>
    obtain rfl : R = false := by rw [HR.out]; rfl
    go_enter Try.func57, Try.ntmps57
    go_wp2_with fail
    refine HX.out.mono ?_
    rintro e w1 ⟨rfl, hb1⟩
    go_wp2
    go_ret
    exact ⟨rfl, by repeat (first | with_reducible exact Below.refl _ _ | (with_reducible refine kSet ?_ ?hB _; case hB => (simp; try omega)) | with_reducible refine kAlloc ?_ _ | with_reducible refine Below.drew ?_ | with_reducible refine kDrewN ?_ _ | with_reducible refine kTrans ?_ (by assumption))⟩
  | true =>
    obtain rfl : R = Rp := by rw [HR.out]; simp
    go_enter Try.func57, Try.ntmps57
    go_wp2_with fail
    refine HX.out.mono ?_
    rintro e w1 ⟨rfl, hb1⟩
    have H2 := Lib.hid (HY.out w1 hb1)
    clear HX HY
    go_wp2_with fail
    refine H2.out.mono ?_
    rintro e w2 ⟨rfl, hb2⟩
    go_wp2
    go_ret
    exact ⟨rfl, by repeat (first | with_reducible exact Below.refl _ _ | (with_reducible refine kSet ?_ ?hB _; case hB => (simp; try omega)) | with_reducible refine kAlloc ?_ _ | with_reducible refine Below.drew ?_ | with_reducible refine kDrewN ?_ _ | with_reducible refine kTrans ?_ (by assumption))⟩
set_option maxRecDepth 100000 in
set_option maxHeartbeats 2000000 in
theorem implValidPushes_any (b m cap : Nat) (wd hi : Int) (lb : List Pc) (pb n : Nat) (l : List Pu) (w : World) (hm : lb.length = m) (hq : PcsAt w b 0 lb) (hbb : b < w.heap.size) (hcap : m ≤ cap) (h8 : All8 lb) (hmm : m ≤ 1048576)
    (hn : l.length = n) (hp : PusAt w pb 0 l) (hb : pb < w.heap.size) (hw : PusWf l) (hmax : n ≤ 1048576) (R : Bool) (hR : R = (boardOk wd hi lb && pushesOk lb l)) :
    Calls Try.prog 59 #[.agg #[.int .i8 wd, .int .i8 hi, .slice (some ⟨b, 0, none⟩) m cap], .slice (some ⟨pb, 0, none⟩) n n] w fun e w' => e = .returned (.bool R) ∧ Below w.heap.size w w' := by
  have hk : Below w.heap.size w (w.alloc (.cells #[.int .i8 wd, .int .i8 hi, .slice (some ⟨b, 0, none⟩) m cap] 30)) := by repeat (first | with_reducible exact Below.refl _ _ | (with_reducible refine kSet ?_ ?hB _; case hB => (simp; try omega)) | with_reducible refine kAlloc ?_ _ | with_reducible refine Below.drew ?_ | with_reducible refine kDrewN ?_ _ | with_reducible refine kTrans ?_ (by assumption))
  have HG := Lib.hid (gameOf_any b 0 m cap wd hi lb pb n l _ hm (hq.below hk hbb) (Nat.lt_of_lt_of_le hbb hk.size) hcap h8 hmm hn (hp.below hk hb) (Nat.lt_of_lt_of_le hb hk.size) hw hmax R hR)
  clear hk hm hq hn hp hR h8 hw
  go_enter Try.func59, Try.ntmps59
  go_wp2_with fail
  refine HG.out.mono ?_
  cases R with
  | false =>
    rintro e w1 ⟨_, h1, hb1⟩
    obtain rfl := h1 rfl
    clear h1 HG
    go_wp2
    go_ret
    exact ⟨rfl, by repeat (first | with_reducible exact Below.refl _ _ | (with_reducible refine kSet ?_ ?hB _; case hB => (simp; try omega)) | with_reducible refine kAlloc ?_ _ | with_reducible refine Below.drew ?_ | with_reducible refine kDrewN ?_ _ | with_reducible refine kTrans ?_ (by assumption))⟩
  | true =>
    rintro e w1 ⟨h1, _, hb1⟩
    obtain ⟨B, rfl, _⟩ := h1 rfl
    clear h1 HG
    go_wp2
    go_ret
    exact ⟨rfl, by repeat (first | with_reducible exact Below.refl _ _ | (with_reducible refine kSet ?_ ?hB _; case hB => (simp; try omega)) | with_reducible refine kAlloc ?_ _ | with_reducible refine Below.drew ?_ | with_reducible refine kDrewN ?_ _ | with_reducible refine kTrans ?_ (by assumption))⟩
end Go.Proofs.Ythancdlkkfegnaa
