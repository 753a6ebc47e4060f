/- ValidPushes: the model. -/
import Derived.Test.YthancdlkkfegnaaPu
import Derived.Test.YthancdlkkfegnaaVb
namespace Go.Proofs.Ythancdlkkfegnaa
open Go.ChangeShapes Go.WideShapes Go.ChangeAt Go.RowKit Go.Joins Go.Deep
set_option linter.unusedVariables false

/-- a push as told, wherever there are pieces -/
def Pu.plain (p : Pu) : Bool := decide (0 ≤ p.side ∧ p.side ≤ 3 ∧ 0 ≤ p.tick ∧ p.tick ≤ 1000 ∧ 0 ≤ p.x ∧ p.x ≤ 23 ∧ 0 ≤ p.y ∧ p.y ≤ 23)
def plains : List Pu → Bool
  | [] => true
  | p :: l => p.plain && plains l
def founds (lb : List Pc) : List Pu → Bool
  | [] => true
  | p :: l => decide (0 ≤ findFrom p.x p.y lb 0) && founds lb l
def pushesOk (lb : List Pc) (l : List Pu) : Bool := decide (l.length ≤ 20) && plains l && founds lb l

set_option maxRecDepth 100000 in
set_option maxHeartbeats 2000000 in
theorem l02Plain_any (p : Pu) (b o : Nat) (w : World) (hp : p.wf) (hc : PuAt w b o p) (r : Bool) (hr : r = p.plain) :
    Calls Try.prog 115 #[.pointer (some ⟨b, o, none⟩)] w fun e w' => e = .returned (.bool r) ∧ Below w.heap.size w w' := by
  obtain ⟨x, y, side, tick⟩ := p
  obtain ⟨c0, c1, c2, c3⟩ := hc
  obtain ⟨hx, hy, hs, ht⟩ := hp
  simp only at c0 c1 c2 c3 hx hy hs ht
  have hx := i8_of hx
  have hy := i8_of hy
  have hs := i8_of hs
  have ht := bounds_i16 ht
  have Hx := Lib.hid hx
  have Hy := Lib.hid hy
  unfold i8 at hx hy hs
  by_cases g1 : 0 ≤ side ∧ side ≤ 3
  · by_cases g2 : 0 ≤ tick ∧ tick ≤ 1000
    · obtain ⟨r2, hr2⟩ : ∃ r2, r2 = decide (0 ≤ x ∧ x ≤ 23 ∧ 0 ≤ y ∧ y ≤ 23) := ⟨_, rfl⟩
      obtain rfl : r = r2 := by rw [hr, hr2]; simp [Pu.plain, g1, g2]
      have Hr2 := Lib.hid hr2
      clear hr hr2
      go_enter Try.func115, Try.ntmps115
      go_wp2_with fail
      refine (l01Side_any _ _ true (by simp; omega)).mono ?_
      rintro e w1 ⟨rfl, rfl⟩
      go_wp2_with fail
      refine (l00In_yes _ _ _ _ (by omega) (by omega)).mono ?_
      rintro e w1 ⟨rfl, rfl⟩
      go_wp2_with fail
      refine (l01In_any x y 24 24 _ Hx.out Hy.out (by omega) (by omega) r (by rw [Hr2.out]; simp)).mono ?_
      rintro e w1 ⟨rfl, hb⟩
      go_wp2
      go_ret
      exact ⟨rfl, hb⟩
    · obtain rfl : r = false := by rw [hr]; simp [Pu.plain]; intro _ _ h3 h4; exact absurd ⟨h3, h4⟩ g2
      clear hr
      go_enter Try.func115, Try.ntmps115
      go_wp2_with fail
      refine (l01Side_any _ _ true (by simp; omega)).mono ?_
      rintro e w1 ⟨rfl, rfl⟩
      go_wp2_with fail
      refine (l00In_no _ _ _ _ (by omega)).mono ?_
      rintro e w1 ⟨rfl, rfl⟩
      go_wp2
      go_ret
      exact ⟨rfl, Below.refl _ _⟩
  · obtain rfl : r = false := by rw [hr]; simp [Pu.plain]; intro h3 h4; exact absurd ⟨h3, h4⟩ g1
    clear hr
    go_enter Try.func115, Try.ntmps115
    go_wp2_with fail
    refine (l01Side_any _ _ false (by simp; omega)).mono ?_
    rintro e w1 ⟨rfl, rfl⟩
    go_wp2
    go_ret
    exact ⟨rfl, Below.refl _ _⟩
set_option maxRecDepth 100000 in
set_option maxHeartbeats 2000000 in
theorem l02Pushes_any (b n : Nat) (l : List Pu) (w : World) (hn : l.length = n) (hp : PusAt w b 0 l) (hb : b < w.heap.size) (hw : PusWf l) (hmax : n ≤ 1048576) (R : Bool) (hR : R = (decide (n ≤ 20) && plains l)) :
    Calls Try.prog 110 #[.slice (some ⟨b, 0, none⟩) n n] w fun e w' => e = .returned (.bool R) ∧ Below w.heap.size w w' := by
  obtain ⟨S, hS⟩ : ∃ S, plains l = S := ⟨_, rfl⟩
  have HS : Hid (plains (l.drop 0) = S) := Lib.hid hS
  have HR : Hid (R = (decide (n ≤ 20) && S)) := Lib.hid (by rw [hR, hS])
  have Hn := Lib.hid hn
  have HW := Lib.hid hw
  clear hn hS hR hw
  go_enter Try.func110, Try.ntmps110
  go_wp2
  go_loopw [3] (fun i wr => ∃ k : Nat, k ≤ n ∧ i = .int .i64 k ∧ Hid (plains (l.drop k) = S) ∧ Below w.heap.size w wr) (fun i _ => n - (intOf i).toNat)
  case atStart => exact ⟨0, by omega, rfl, HS, Below.refl _ _⟩
  case round =>
    obtain ⟨k, hk, rfl, hf, hbr⟩ := hrel
    by_cases hlt : k < n
    · have hlk : k < l.length := by rw [Hn.out]; exact hlt
      have hpa := (hp.below hbr hb) k hlk
      have hwf := HW.out _ (List.getElem_mem hlk)
      have hd : l.drop k = l[k] :: l.drop (k + 1) := List.drop_eq_getElem_cons hlk
      generalize l[k] = p at hpa hwf hd
      have hq := hf.out
      rw [hd] at hq
      have hL := Lib.hid (fun r hr => l02Plain_any p b (0 + k * 4) wr hwf hpa r hr)
      simp only [Nat.zero_add] at hL
      clear hp hd hpa hf HS
      cases g : p.plain with
      | true =>
        have hR2 : Hid (plains (l.drop (k + 1)) = S) := Lib.hid (by rw [← hq]; simp [plains, g])
        have G := Lib.hid g
        clear hq g
        go_wp2_with fail
        refine (hL.out true G.out.symm).mono ?_
        rintro e w2 ⟨rfl, hb2⟩
        go_wp2
        exact ⟨⟨k + 1, by omega, by go_num, hR2, kTrans hbr hb2⟩, by simp [intOf]; omega⟩
      | false =>
        obtain rfl : S = false := by rw [← hq]; simp [plains, g]
        obtain rfl : R = false := by rw [HR.out]; simp
        have G := Lib.hid g
        clear hq g
        go_wp2_with fail
        refine (hL.out false G.out.symm).mono ?_
        rintro e w2 ⟨rfl, hb2⟩
        go_wp2
        go_ret
        exact ⟨rfl, kTrans hbr hb2⟩
    · obtain rfl : k = n := by omega
      obtain rfl : S = true := by rw [← hf.out, List.drop_of_length_le (by rw [Hn.out]; omega)]; rfl
      clear hp hf HS
      by_cases h20 : k ≤ 20
      · obtain rfl : R = true := by rw [HR.out]; simp [h20]
        have e1 : decide ((k : Int) ≤ 20) = true := by simp; omega
        have e2 : decide (k ≤ 20) = true := by simpa using h20
        go_wp2
        go_ret
        exact ⟨rfl, hbr⟩
      · obtain rfl : R = false := by rw [HR.out]; simp; omega
        have e1 : decide ((k : Int) ≤ 20) = false := by simp; omega
        have e2 : decide (k ≤ 20) = false := by simpa using h20
        go_wp2
        go_ret
        exact ⟨rfl, hbr⟩
set_option maxRecDepth 100000 in
set_option maxHeartbeats 2000000 in
theorem l02Ok_any (bb bo b o m cap : Nat) (wd hi : Int) (lb : List Pc) (pb n : Nat) (l : List Pu) (w : World) (hm : lb.length = m) (hbd : BdAt w bb bo wd hi (.slice (some ⟨b, o, none⟩) m cap)) (hq : PcsAt w b o lb) (hbb : b < w.heap.size) (hcap : m ≤ cap) (hmm : m ≤ 1048576)
    (hn : l.length = n) (hp : PusAt w pb 0 l) (hb : pb < w.heap.size) (hw : PusWf l) (hmax : n ≤ 1048576) (R : Bool) (hR : R = pushesOk lb l) :
    Calls Try.prog 99 #[.pointer (some ⟨bb, bo, none⟩), .slice (some ⟨pb, 0, none⟩) n n] w fun e w' => e = .returned (.bool R) ∧ Below w.heap.size w w' := by
  obtain ⟨S, hS⟩ : ∃ S, S = (decide (n ≤ 20) && plains l) := ⟨_, rfl⟩
  obtain ⟨F, hF⟩ : ∃ F, founds lb l = F := ⟨_, rfl⟩
  have HR : Hid (R = (S && F)) := Lib.hid (by rw [hR, hS, ← hF]; unfold pushesOk; rw [hn])
  have HF : Hid (founds lb (l.drop 0) = F) := Lib.hid hF
  have HP := Lib.hid (l02Pushes_any pb n l w hn hp hb hw hmax S hS)
  have Hn := Lib.hid hn
  have Hm := Lib.hid hm
  have hbl := hbd.lt
  clear hn hm hS hF hR hw
  cases S with
  | false =>
    obtain rfl : R = false := by rw [HR.out]; simp
    go_enter Try.func99, Try.ntmps99
    go_wp2_with fail
    refine HP.out.mono ?_
    rintro e w1 ⟨rfl, hb1⟩
    go_wp2
    go_ret
    exact ⟨rfl, hb1⟩
  | true =>
    obtain rfl : R = F := by rw [HR.out]; simp
    go_enter Try.func99, Try.ntmps99
    go_wp2_with fail
    refine HP.out.mono ?_
    rintro e w1 ⟨rfl, hb1⟩
    clear HP
    go_wp2
    go_loopw [5] (fun i wr => ∃ k : Nat, k ≤ n ∧ i = .int .i64 k ∧ Hid (founds lb (l.drop k) = R) ∧ Below w.heap.size w wr) (fun i _ => n - (intOf i).toNat)
    case atStart => exact ⟨0, by omega, rfl, HF, hb1⟩
    case round =>
      obtain ⟨k, hk, rfl, hf, hbr⟩ := hrel
      by_cases hlt : k < n
      · have hlk : k < l.length := by rw [Hn.out]; exact hlt
        have hpa := (hp.below hbr hb) k hlk
        have hd : l.drop k = l[k] :: l.drop (k + 1) := List.drop_eq_getElem_cons hlk
        generalize l[k] = p at hpa hd
        have hq2 := hf.out
        rw [hd] at hq2
        obtain ⟨a0, a1, a2, a3⟩ := hpa
        simp only [Nat.zero_add] at a0 a1 a2 a3
        obtain ⟨f, hff⟩ : ∃ f, findFrom p.x p.y lb 0 = f := ⟨_, rfl⟩
        have hL := Lib.hid (l01Find_to bb bo b o m cap wd hi p.x p.y f lb wr Hm.out (hbd.below hbr hbl) (hq.below hbr hbb) (Nat.lt_of_lt_of_le hbb hbr.size) hcap hmm hff)
        have Hff := Lib.hid hff
        clear hp hd hf HF hff hq hbd
        go_wp2_with fail
        refine hL.out.mono ?_
        rintro e w2 ⟨rfl, hb2⟩
        by_cases g : 0 ≤ f
        · have hR2 : Hid (founds lb (l.drop (k + 1)) = R) := Lib.hid (by rw [← hq2]; simp [founds, Hff.out, g])
          clear hq2
          go_wp2
          exact ⟨⟨k + 1, by omega, by go_num, hR2, kTrans hbr hb2⟩, by simp [intOf]; omega⟩
        · obtain rfl : R = false := by rw [← hq2]; simp [founds, Hff.out]; intro h; omega
          clear hq2
          go_wp2
          go_ret
          exact ⟨rfl, kTrans hbr hb2⟩
      · obtain rfl : R = true := by rw [← hf.out, List.drop_of_length_le (by rw [Hn.out]; omega)]; rfl
        clear hp hf HF hq hbd
        go_wp2
        go_ret
        exact ⟨rfl, hbr⟩
end Go.Proofs.Ythancdlkkfegnaa
