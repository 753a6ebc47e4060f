/- Several texts in one: No, NoI, Vp, EqFl, Puk, Flk, Lp, LpI, VpI. -/
import Derived.Test.YtflkfkbdgekpkaaDoorG2
import Derived.Deep.RegionHeld3
import Derived.Test.YtflkfkbdgekpkaaDoorG3
import Derived.Test.YtflkfkbdgekpkaaDoorG1
import Derived.Laws.StructEq
import Derived.Test.YtflkfkbdgekpkaaDoorG4
/- NeighboursOf: the program and the model. -/
namespace Go.Proofs.YtflkfkbdgekpkaaDoor
open Go.ChangeShapes Go.WideShapes Go.ChangeAt Go.RowKit
set_option linter.unusedVariables false

theorem Pc.ok_at {p : Pc} (h : p.ok = true) : (0 ≤ p.x ∧ p.x ≤ 23) ∧ (0 ≤ p.y ∧ p.y ≤ 23) := by
  have := of_decide_eq_true h
  omega
/-- the pieces on the four sides -/
def nearF (l : List Pc) (p : Pc) (j : Nat) : Int := findFrom (stepX p.x j) (stepY p.y j) l 0
def nearZ (l : List Pc) (p : Pc) (k : Nat) (j : Nat) : Int := if j < k then nearF l p j else 0
/-- the call's boxes: the board's, the result's, the numbers' -/
structure NoSt (wr : World) (s : Nat) (wd hi : Int) (v : Value) (z : Nat → Int) : Prop where
  t1 : BdAt wr s 0 wd hi v
  t2 : ∀ j : Nat, j < 4 → wr.cell? ⟨s + 1, j, none⟩ = some (.int .i64 0)
  f2 : ∀ j, wr.frozen? ⟨s + 1, j, none⟩ = false
  t3 : ∀ j : Nat, j < 4 → wr.cell? ⟨s + 1 + 1, j, none⟩ = some (.int .i64 (z j))
  f3 : ∀ j, wr.frozen? ⟨s + 1 + 1, j, none⟩ = false
  lt : s + 1 + 1 < wr.heap.size
theorem NoSt.below {wr w' : World} {s : Nat} {wd hi : Int} {v : Value} {z : Nat → Int} (h : NoSt wr s wd hi v z) (hb : Below wr.heap.size wr w') : NoSt w' s wd hi v z :=
  have hl := h.lt
  ⟨h.t1.below hb (by omega), fun j hj => (hb.cell (p := ⟨s + 1, j, none⟩) (by simp; omega)).trans (h.t2 j hj), fun j => (hb.frozen (p := ⟨s + 1, j, none⟩) (by simp; omega)).trans (h.f2 j),
    fun j hj => (hb.cell (p := ⟨s + 1 + 1, j, none⟩) hl).trans (h.t3 j hj), fun j => (hb.frozen (p := ⟨s + 1 + 1, j, none⟩) hl).trans (h.f3 j), Nat.lt_of_lt_of_le hl hb.size⟩
theorem NoSt.store {wr : World} {s : Nat} {wd hi : Int} {v : Value} {z z' : Nat → Int} (h : NoSt wr s wd hi v z) (k : Nat) (hk : k < 4) (hz : ∀ j, z' j = if j = k then z' k else z j) : NoSt (wr.setCell ⟨s + 1 + 1, k, none⟩ (.int .i64 (z' k))) s wd hi v z' := by
  have ne : ∀ (b i : Nat), b ≠ s + 1 + 1 → (⟨s + 1 + 1, k, none⟩ : Addr) ≠ ⟨b, i, none⟩ := by intro b i hb e; injection e with h1 _ _; exact hb h1.symm
  obtain ⟨⟨h0, h1, h2⟩, t2, f2, t3, f3, lt⟩ := h
  refine ⟨⟨?_, ?_, ?_⟩, fun i hi => ?_, fun i => ?_, fun i hi => ?_, fun i => ?_, by simpa [World.size_setCell] using lt⟩
  · rw [World.cell?_setCell_other _ _ _ _ (ne _ _ (by omega))]; exact h0
  · rw [World.cell?_setCell_other _ _ _ _ (ne _ _ (by omega))]; exact h1
  · rw [World.cell?_setCell_other _ _ _ _ (ne _ _ (by omega))]; exact h2
  · rw [World.cell?_setCell_other _ _ _ _ (ne _ _ (by omega))]; exact t2 i hi
  · rw [World.frozen?_setCell]; exact f2 i
  · by_cases e : i = k
    · subst e
      rw [World.cell?_setCell_same _ _ _ (t3 i hi)]
    · rw [World.cell?_setCell_other _ _ _ _ (by intro e2; injection e2 with _ h2 _; exact e h2.symm), hz i, if_neg e]; exact t3 i hi
  · rw [World.frozen?_setCell]; exact f3 i
theorem nearZ_step (l : List Pc) (p : Pc) (k : Nat) : ∀ j, nearZ l p (k + 1) j = if j = k then nearZ l p (k + 1) k else nearZ l p k j := by
  intro j
  unfold nearZ
  by_cases e : j = k
  · subst e; simp
  · rw [if_neg e]
    by_cases h : j < k
    · rw [if_pos h, if_pos (by omega)]
    · rw [if_neg h, if_neg (by omega)]
theorem nearZ_at (l : List Pc) (p : Pc) (k : Nat) : nearZ l p (k + 1) k = nearF l p k := by unfold nearZ; rw [if_pos (by omega)]
theorem NoSt.start (w : World) (wd hi : Int) (v : Value) (t t6 : TypeId) (l : List Pc) (p : Pc) : NoSt (((w.alloc (.cells #[.int .i8 wd, .int .i8 hi, v] t)).alloc (.cells #[.int .i64 0, .int .i64 0, .int .i64 0, .int .i64 0] t6)).alloc (.cells #[.int .i64 0, .int .i64 0, .int .i64 0, .int .i64 0] t6)) w.heap.size wd hi v (nearZ l p 0) := by
  have b1 : Below (w.alloc (.cells #[.int .i8 wd, .int .i8 hi, v] t)).heap.size (w.alloc (.cells #[.int .i8 wd, .int .i8 hi, v] t)) (((w.alloc (.cells #[.int .i8 wd, .int .i8 hi, v] t)).alloc (.cells #[.int .i64 0, .int .i64 0, .int .i64 0, .int .i64 0] t6)).alloc (.cells #[.int .i64 0, .int .i64 0, .int .i64 0, .int .i64 0] t6)) := kAlloc (kAlloc (Below.refl _ _) _) _
  have b2 : Below ((w.alloc (.cells #[.int .i8 wd, .int .i8 hi, v] t)).alloc (.cells #[.int .i64 0, .int .i64 0, .int .i64 0, .int .i64 0] t6)).heap.size ((w.alloc (.cells #[.int .i8 wd, .int .i8 hi, v] t)).alloc (.cells #[.int .i64 0, .int .i64 0, .int .i64 0, .int .i64 0] t6)) (((w.alloc (.cells #[.int .i8 wd, .int .i8 hi, v] t)).alloc (.cells #[.int .i64 0, .int .i64 0, .int .i64 0, .int .i64 0] t6)).alloc (.cells #[.int .i64 0, .int .i64 0, .int .i64 0, .int .i64 0] t6)) := kAlloc (Below.refl _ _) _
  have six : ∀ (x : World) (j : Nat), j < 4 → (x.alloc (.cells #[.int .i64 0, .int .i64 0, .int .i64 0, .int .i64 0] t6)).cell? ⟨x.heap.size, j, none⟩ = some (.int .i64 0) := by
    intro x j hj
    have : j = 0 ∨ j = 1 ∨ j = 2 ∨ j = 3 := by omega
    rcases this with rfl | rfl | rfl | rfl <;> simp
  have frz : ∀ (x : World) (j : Nat), (x.alloc (.cells #[.int .i64 0, .int .i64 0, .int .i64 0, .int .i64 0] t6)).frozen? ⟨x.heap.size, j, none⟩ = false := fun x j => frozen_of_row _ _ j _ _ (heap_alloc_new _ _)
  have e1 : (w.alloc (.cells #[.int .i8 wd, .int .i8 hi, v] t)).heap.size = w.heap.size + 1 := by simp
  have e2 : ((w.alloc (.cells #[.int .i8 wd, .int .i8 hi, v] t)).alloc (.cells #[.int .i64 0, .int .i64 0, .int .i64 0, .int .i64 0] t6)).heap.size = w.heap.size + 1 + 1 := by simp
  refine ⟨(BdAt.box w wd hi v t).below b1 (by simp), fun j hj => ?_, fun j => ?_, fun j hj => ?_, fun j => ?_, by simp⟩
  · have := six (w.alloc (.cells #[.int .i8 wd, .int .i8 hi, v] t)) j hj
    rw [e1] at this
    exact (b2.cell (p := ⟨w.heap.size + 1, j, none⟩) (by simp)).trans this
  · have := frz (w.alloc (.cells #[.int .i8 wd, .int .i8 hi, v] t)) j
    rw [e1] at this
    exact (b2.frozen (p := ⟨w.heap.size + 1, j, none⟩) (by simp)).trans this
  · have := six ((w.alloc (.cells #[.int .i8 wd, .int .i8 hi, v] t)).alloc (.cells #[.int .i64 0, .int .i64 0, .int .i64 0, .int .i64 0] t6)) j hj
    rw [e2] at this
    rw [show nearZ l p 0 j = 0 from by simp [nearZ]]
    exact this
  · have := frz ((w.alloc (.cells #[.int .i8 wd, .int .i8 hi, v] t)).alloc (.cells #[.int .i64 0, .int .i64 0, .int .i64 0, .int .i64 0] t6)) j
    rw [e2] at this
    exact this

/-- the answer and the code -/
def nearM (R : Bool) (l : List Pc) (i : Int) (j : Nat) : Int := if R = true ∧ 0 ≤ i ∧ i < l.length then nearF l (l.getD i.toNat ⟨0, 0, 0, 0, 0⟩) j else 0
def nearC (R : Bool) (l : List Pc) (i : Int) : Int := if R then (if 0 ≤ i ∧ i < l.length then 0 else 2) else 1
def nearV (R : Bool) (l : List Pc) (i : Int) : Value := .tuple #[.agg #[.int .i64 (nearM R l i 0), .int .i64 (nearM R l i 1), .int .i64 (nearM R l i 2), .int .i64 (nearM R l i 3)], .int .i64 (nearC R l i)]
theorem nearV_no {R : Bool} {l : List Pc} {i : Int} (h : ¬ (R = true ∧ 0 ≤ i ∧ i < l.length)) : nearV R l i = .tuple #[.agg #[.int .i64 0, .int .i64 0, .int .i64 0, .int .i64 0], .int .i64 (nearC R l i)] := by
  unfold nearV nearM; simp only [if_neg h]
theorem nearV_yes {R : Bool} {l : List Pc} {i : Nat} {p : Pc} (h : R = true) (hi : i < l.length) (hp : l[i] = p) : nearV R l i = .tuple #[.agg #[.int .i64 (nearF l p 0), .int .i64 (nearF l p 1), .int .i64 (nearF l p 2), .int .i64 (nearF l p 3)], .int .i64 0] := by
  have hg : l.getD ((i : Int)).toNat ⟨0, 0, 0, 0, 0⟩ = p := by rw [Int.toNat_natCast, List.getD_eq_getElem?_getD, List.getElem?_eq_getElem hi, hp]; rfl
  have hc : R = true ∧ 0 ≤ (i : Int) ∧ (i : Int) < l.length := ⟨h, by omega, by omega⟩
  unfold nearV nearM nearC
  simp only [if_pos hc, hg]
  rw [if_pos h, if_pos hc.2]

set_option maxHeartbeats 1000000 in
theorem l01Near_any (bb bo b o n cap : Nat) (wd hi s : Int) (i : Nat) (p : Pc) (l : List Pc) (w : World) (hn : l.length = n) (hbd : BdAt w bb bo wd hi (.slice (some ⟨b, o, none⟩) n cap)) (hp : PcsAt w b o l) (hb : b < w.heap.size) (hc : n ≤ cap) (hmax : n ≤ 1048576)
    (hi' : i < n) (hpe : ∀ h : i < l.length, l[i] = p) (hs : 0 ≤ s ∧ s ≤ 3) (hx : -127 ≤ p.x ∧ p.x ≤ 126) (hy : -127 ≤ p.y ∧ p.y ≤ 126) (R : Int) (hR : findFrom (stepX p.x s) (stepY p.y s) l 0 = R) :
    Calls Tryd.prog 43 #[.pointer (some ⟨bb, bo, none⟩), .int .i64 i, .int .i64 s] w fun e w' => e = .returned (.int .i64 R) ∧ Below w.heap.size w w' := by
  have hli : i < l.length := by omega
  obtain ⟨a0, a1, a2, a3, a4⟩ := hp i hli
  rw [hpe hli] at a0 a1 a2 a3 a4
  have HF := Lib.hid (fun w2 (h2 : Below w.heap.size w w2) => l01Find_to bb bo b o n cap wd hi (stepX p.x s) (stepY p.y s) R l w2 hn (hbd.below h2 hbd.lt) (hp.below h2 hb) (Nat.lt_of_lt_of_le hb h2.size) hc hmax hR)
  obtain ⟨q0, q1, q2⟩ := hbd
  clear hn hp hR hpe hli
  go_enter Tryd.func43, Tryd.ntmps43
  go_wp2_with fail
  refine (l01Next_any p.x p.y s _ hx hy hs).mono ?_
  rintro e w1 ⟨rfl, hb1⟩
  go_wp2_with fail
  refine (HF.out _ (by repeat (first | with_reducible exact Below.refl _ _ | (with_reducible refine kSet ?_ ?hB _; case hB => (simp; try omega)) | with_reducible refine kAlloc ?_ _ | with_reducible refine Below.drew ?_ | with_reducible refine kDrewN ?_ _ | with_reducible refine kTrans ?_ (by assumption)))).mono ?_
  rintro e w2 ⟨rfl, hb2⟩
  go_wp2
  go_ret
  exact ⟨rfl, by repeat (first | with_reducible exact Below.refl _ _ | (with_reducible refine kSet ?_ ?hB _; case hB => (simp; try omega)) | with_reducible refine kAlloc ?_ _ | with_reducible refine Below.drew ?_ | with_reducible refine kDrewN ?_ _ | with_reducible refine kTrans ?_ (by assumption))⟩
end Go.Proofs.YtflkfkbdgekpkaaDoor

/- NeighboursOf: the program. -/
namespace Go.Proofs.YtflkfkbdgekpkaaDoor
open Go.ChangeShapes Go.WideShapes Go.ChangeAt Go.RowKit
set_option linter.unusedVariables false

theorem MapAt.ne {w : World} {B b o : Nat} {l : List Pc} {v : Value} (h : MapAt w B l) (hc : w.cell? ⟨b, o, none⟩ = some v) : b ≠ B := by
  rintro rfl
  obtain ⟨es, c, h1, _⟩ := h
  unfold World.cell? at hc
  simp [h1] at hc
theorem BdAt.set {w : World} {b o c j : Nat} {wd hi : Int} {v x : Value} (h : BdAt w b o wd hi v) (hne : c ≠ b) : BdAt (w.setCell ⟨c, j, none⟩ x) b o wd hi v := by
  have ne : ∀ i : Nat, (⟨c, j, none⟩ : Addr) ≠ ⟨b, i, none⟩ := by intro i e; injection e with h1 _ _; exact hne h1
  obtain ⟨h0, h1, h2⟩ := h
  exact ⟨by rw [World.cell?_setCell_other _ _ _ _ (ne _)]; exact h0, by rw [World.cell?_setCell_other _ _ _ _ (ne _)]; exact h1, by rw [World.cell?_setCell_other _ _ _ _ (ne _)]; exact h2⟩

end Go.Proofs.YtflkfkbdgekpkaaDoor

/- ValidPushes: the model. -/
namespace Go.Proofs.YtflkfkbdgekpkaaDoor
open Go.ChangeShapes Go.WideShapes Go.ChangeAt Go.RowKit Go.Joins Go.Deep
set_option linter.unusedVariables false

/-- a push as told, wherever there are pieces -/
def Pu.plain (p : Pu) : Bool := decide (0 ≤ p.side ∧ p.side ≤ 3 ∧ 0 ≤ p.tick ∧ p.tick ≤ 1000 ∧ 0 ≤ p.x ∧ p.x ≤ 23 ∧ 0 ≤ p.y ∧ p.y ≤ 23)
def plains : List Pu → Bool
  | [] => true
  | p :: l => p.plain && plains l
def founds (lb : List Pc) : List Pu → Bool
  | [] => true
  | p :: l => decide (0 ≤ findFrom p.x p.y lb 0) && founds lb l
def pushesOk (lb : List Pc) (l : List Pu) : Bool := decide (l.length ≤ 20) && plains l && founds lb l

set_option maxRecDepth 100000 in
set_option maxHeartbeats 2000000 in
theorem l02Plain_any (p : Pu) (b o : Nat) (w : World) (hp : p.wf) (hc : PuAt w b o p) (r : Bool) (hr : r = p.plain) :
    Calls Tryd.prog 111 #[.pointer (some ⟨b, o, none⟩)] w fun e w' => e = .returned (.bool r) ∧ Below w.heap.size w w' := by
  obtain ⟨x, y, side, tick⟩ := p
  obtain ⟨c0, c1, c2, c3⟩ := hc
  obtain ⟨hx, hy, hs, ht⟩ := hp
  simp only at c0 c1 c2 c3 hx hy hs ht
  have hx := i8_of hx
  have hy := i8_of hy
  have hs := i8_of hs
  have ht := bounds_i16 ht
  have Hx := Lib.hid hx
  have Hy := Lib.hid hy
  unfold i8 at hx hy hs
  by_cases g1 : 0 ≤ side ∧ side ≤ 3
  · by_cases g2 : 0 ≤ tick ∧ tick ≤ 1000
    · obtain ⟨r2, hr2⟩ : ∃ r2, r2 = decide (0 ≤ x ∧ x ≤ 23 ∧ 0 ≤ y ∧ y ≤ 23) := ⟨_, rfl⟩
      obtain rfl : r = r2 := by rw [hr, hr2]; simp [Pu.plain, g1, g2]
      have Hr2 := Lib.hid hr2
      clear hr hr2
      go_enter Tryd.func111, Tryd.ntmps111
      go_wp2_with fail
      refine (l01Side_any _ _ true (by simp; omega)).mono ?_
      rintro e w1 ⟨rfl, rfl⟩
      go_wp2_with fail
      refine (l00In_yes _ _ _ _ (by omega) (by omega)).mono ?_
      rintro e w1 ⟨rfl, rfl⟩
      go_wp2_with fail
      refine (l01In_any x y 24 24 _ Hx.out Hy.out (by omega) (by omega) r (by rw [Hr2.out]; simp)).mono ?_
      rintro e w1 ⟨rfl, hb⟩
      go_wp2
      go_ret
      exact ⟨rfl, hb⟩
    · obtain rfl : r = false := by rw [hr]; simp [Pu.plain]; intro _ _ h3 h4; exact absurd ⟨h3, h4⟩ g2
      clear hr
      go_enter Tryd.func111, Tryd.ntmps111
      go_wp2_with fail
      refine (l01Side_any _ _ true (by simp; omega)).mono ?_
      rintro e w1 ⟨rfl, rfl⟩
      go_wp2_with fail
      refine (l00In_no _ _ _ _ (by omega)).mono ?_
      rintro e w1 ⟨rfl, rfl⟩
      go_wp2
      go_ret
      exact ⟨rfl, Below.refl _ _⟩
  · obtain rfl : r = false := by rw [hr]; simp [Pu.plain]; intro h3 h4; exact absurd ⟨h3, h4⟩ g1
    clear hr
    go_enter Tryd.func111, Tryd.ntmps111
    go_wp2_with fail
    refine (l01Side_any _ _ false (by simp; omega)).mono ?_
    rintro e w1 ⟨rfl, rfl⟩
    go_wp2
    go_ret
    exact ⟨rfl, Below.refl _ _⟩
set_option maxRecDepth 100000 in
set_option maxHeartbeats 2000000 in
theorem l02Pushes_any (b n : Nat) (l : List Pu) (w : World) (hn : l.length = n) (hp : PusAt w b 0 l) (hb : b < w.heap.size) (hw : PusWf l) (hmax : n ≤ 1048576) (R : Bool) (hR : R = (decide (n ≤ 20) && plains l)) :
    Calls Tryd.prog 105 #[.slice (some ⟨b, 0, none⟩) n n] w fun e w' => e = .returned (.bool R) ∧ Below w.heap.size w w' := by
  obtain ⟨S, hS⟩ : ∃ S, plains l = S := ⟨_, rfl⟩
  have HS : Hid (plains (l.drop 0) = S) := Lib.hid hS
  have HR : Hid (R = (decide (n ≤ 20) && S)) := Lib.hid (by rw [hR, hS])
  have Hn := Lib.hid hn
  have HW := Lib.hid hw
  clear hn hS hR hw
  go_enter Tryd.func105, Tryd.ntmps105
  go_wp2
  go_loopw [3] (fun i wr => ∃ k : Nat, k ≤ n ∧ i = .int .i64 k ∧ Hid (plains (l.drop k) = S) ∧ Below w.heap.size w wr) (fun i _ => n - (intOf i).toNat)
  case atStart => exact ⟨0, by omega, rfl, HS, Below.refl _ _⟩
  case round =>
    obtain ⟨k, hk, rfl, hf, hbr⟩ := hrel
    by_cases hlt : k < n
    · have hlk : k < l.length := by rw [Hn.out]; exact hlt
      have hpa := (hp.below hbr hb) k hlk
      have hwf := HW.out _ (List.getElem_mem hlk)
      have hd : l.drop k = l[k] :: l.drop (k + 1) := List.drop_eq_getElem_cons hlk
      generalize l[k] = p at hpa hwf hd
      have hq := hf.out
      rw [hd] at hq
      have hL := Lib.hid (fun r hr => l02Plain_any p b (0 + k * 4) wr hwf hpa r hr)
      simp only [Nat.zero_add] at hL
      clear hp hd hpa hf HS
      cases g : p.plain with
      | true =>
        have hR2 : Hid (plains (l.drop (k + 1)) = S) := Lib.hid (by rw [← hq]; simp [plains, g])
        have G := Lib.hid g
        clear hq g
        go_wp2_with fail
        refine (hL.out true G.out.symm).mono ?_
        rintro e w2 ⟨rfl, hb2⟩
        go_wp2
        exact ⟨⟨k + 1, by omega, by go_num, hR2, kTrans hbr hb2⟩, by simp [intOf]; omega⟩
      | false =>
        obtain rfl : S = false := by rw [← hq]; simp [plains, g]
        obtain rfl : R = false := by rw [HR.out]; simp
        have G := Lib.hid g
        clear hq g
        go_wp2_with fail
        refine (hL.out false G.out.symm).mono ?_
        rintro e w2 ⟨rfl, hb2⟩
        go_wp2
        go_ret
        exact ⟨rfl, kTrans hbr hb2⟩
    · obtain rfl : k = n := by omega
      obtain rfl : S = true := by rw [← hf.out, List.drop_of_length_le (by rw [Hn.out]; omega)]; rfl
      clear hp hf HS
      by_cases h20 : k ≤ 20
      · obtain rfl : R = true := by rw [HR.out]; simp [h20]
        have e1 : decide ((k : Int) ≤ 20) = true := by simp; omega
        have e2 : decide (k ≤ 20) = true := by simpa using h20
        go_wp2
        go_ret
        exact ⟨rfl, hbr⟩
      · obtain rfl : R = false := by rw [HR.out]; simp; omega
        have e1 : decide ((k : Int) ≤ 20) = false := by simp; omega
        have e2 : decide (k ≤ 20) = false := by simpa using h20
        go_wp2
        go_ret
        exact ⟨rfl, hbr⟩
set_option maxRecDepth 100000 in
set_option maxHeartbeats 2000000 in
theorem l02Ok_any (bb bo b o m cap : Nat) (wd hi : Int) (lb : List Pc) (pb n : Nat) (l : List Pu) (w : World) (hm : lb.length = m) (hbd : BdAt w bb bo wd hi (.slice (some ⟨b, o, none⟩) m cap)) (hq : PcsAt w b o lb) (hbb : b < w.heap.size) (hcap : m ≤ cap) (hmm : m ≤ 1048576)
    (hn : l.length = n) (hp : PusAt w pb 0 l) (hb : pb < w.heap.size) (hw : PusWf l) (hmax : n ≤ 1048576) (R : Bool) (hR : R = pushesOk lb l) :
    Calls Tryd.prog 98 #[.pointer (some ⟨bb, bo, none⟩), .slice (some ⟨pb, 0, none⟩) n n] w fun e w' => e = .returned (.bool R) ∧ Below w.heap.size w w' := by
  obtain ⟨S, hS⟩ : ∃ S, S = (decide (n ≤ 20) && plains l) := ⟨_, rfl⟩
  obtain ⟨F, hF⟩ : ∃ F, founds lb l = F := ⟨_, rfl⟩
  have HR : Hid (R = (S && F)) := Lib.hid (by rw [hR, hS, ← hF]; unfold pushesOk; rw [hn])
  have HF : Hid (founds lb (l.drop 0) = F) := Lib.hid hF
  have HP := Lib.hid (l02Pushes_any pb n l w hn hp hb hw hmax S hS)
  have Hn := Lib.hid hn
  have Hm := Lib.hid hm
  have hbl := hbd.lt
  clear hn hm hS hF hR hw
  cases S with
  | false =>
    obtain rfl : R = false := by rw [HR.out]; simp
    go_enter Tryd.func98, Tryd.ntmps98
    go_wp2_with fail
    refine HP.out.mono ?_
    rintro e w1 ⟨rfl, hb1⟩
    go_wp2
    go_ret
    exact ⟨rfl, hb1⟩
  | true =>
    obtain rfl : R = F := by rw [HR.out]; simp
    go_enter Tryd.func98, Tryd.ntmps98
    go_wp2_with fail
    refine HP.out.mono ?_
    rintro e w1 ⟨rfl, hb1⟩
    clear HP
    go_wp2
    go_loopw [5] (fun i wr => ∃ k : Nat, k ≤ n ∧ i = .int .i64 k ∧ Hid (founds lb (l.drop k) = R) ∧ Below w.heap.size w wr) (fun i _ => n - (intOf i).toNat)
    case atStart => exact ⟨0, by omega, rfl, HF, hb1⟩
    case round =>
      obtain ⟨k, hk, rfl, hf, hbr⟩ := hrel
      by_cases hlt : k < n
      · have hlk : k < l.length := by rw [Hn.out]; exact hlt
        have hpa := (hp.below hbr hb) k hlk
        have hd : l.drop k = l[k] :: l.drop (k + 1) := List.drop_eq_getElem_cons hlk
        generalize l[k] = p at hpa hd
        have hq2 := hf.out
        rw [hd] at hq2
        obtain ⟨a0, a1, a2, a3⟩ := hpa
        simp only [Nat.zero_add] at a0 a1 a2 a3
        obtain ⟨f, hff⟩ : ∃ f, findFrom p.x p.y lb 0 = f := ⟨_, rfl⟩
        have hL := Lib.hid (l01Find_to bb bo b o m cap wd hi p.x p.y f lb wr Hm.out (hbd.below hbr hbl) (hq.below hbr hbb) (Nat.lt_of_lt_of_le hbb hbr.size) hcap hmm hff)
        have Hff := Lib.hid hff
        clear hp hd hf HF hff hq hbd
        go_wp2_with fail
        refine hL.out.mono ?_
        rintro e w2 ⟨rfl, hb2⟩
        by_cases g : 0 ≤ f
        · have hR2 : Hid (founds lb (l.drop (k + 1)) = R) := Lib.hid (by rw [← hq2]; simp [founds, Hff.out, g])
          clear hq2
          go_wp2
          exact ⟨⟨k + 1, by omega, by go_num, hR2, kTrans hbr hb2⟩, by simp [intOf]; omega⟩
        · obtain rfl : R = false := by rw [← hq2]; simp [founds, Hff.out]; intro h; omega
          clear hq2
          go_wp2
          go_ret
          exact ⟨rfl, kTrans hbr hb2⟩
      · obtain rfl : R = true := by rw [← hf.out, List.drop_of_length_le (by rw [Hn.out]; omega)]; rfl
        clear hp hf HF hq hbd
        go_wp2
        go_ret
        exact ⟨rfl, hbr⟩
end Go.Proofs.YtflkfkbdgekpkaaDoor

/- Records of the type Fall compared by '==', and slices of them. -/
namespace Go.Proofs.YtflkfkbdgekpkaaDoor
open Go.ChangeShapes Go.WideShapes Go.ChangeAt Go.RowKit Go.Joins Go.Deep
set_option linter.unusedVariables false

theorem Fl_eq (p q : Fl) (w : World) : (Op.equalIn 10000 73 (.agg #[.int .i64 p.tick, .int .i8 p.frm, .int .i64 p.who]) (.agg #[.int .i64 q.tick, .int .i8 q.frm, .int .i64 q.who])).run Tryd.prog w = .ok (decide (p = q)) w := by
  obtain ⟨a, b, c⟩ := p
  obtain ⟨d, e, f⟩ := q
  have hS : Tryd.prog.underlying 73 = some (.struct (Tryd.prog.fieldsOf 73)) := by kernel_rfl
  have hp : Tryd.prog.stoodInHeld 73 = false := by kernel_rfl
  rw [show (10000 : Nat) = 9999 + 1 from rfl, run_equalIn_agg w 9999 73 _ _ hS hp]
  simp only [Program.fieldsOf, Tryd.underlying73]
  go_simp
  by_cases h1 : a = d <;> by_cases h2 : b = e <;> by_cases h3 : c = f <;> simp [h1, h2, h3]
end Go.Proofs.YtflkfkbdgekpkaaDoor

/- Slices of the type Push that a call has made: where they lie; the laws' own marking of them; copies. -/
namespace Go.Proofs.YtflkfkbdgekpkaaDoor
open Go.ChangeShapes Go.WideShapes Go.ChangeAt Go.RowKit Go.Joins Go.Deep
set_option linter.unusedVariables false

theorem PusAt.out {lo hi : Nat} {w w' : World} {b o : Nat} {l : List Pu} (h : PusAt w b o l) (g : KeptOut lo hi w w') (hb : b < w.heap.size) (ho : b < lo ∨ hi ≤ b) : PusAt w' b o l := by
  intro i hi'
  obtain ⟨h0, h1, h2, h3⟩ := h i hi'
  exact ⟨(g.cell hb ho).trans h0, (g.cell hb ho).trans h1, (g.cell hb ho).trans h2, (g.cell hb ho).trans h3⟩
inductive SlWPu (lo hi : Nat) (w : World) (l : List Pu) : Value → Prop where
  | empty (a : Option Addr) (cap : Nat) (h : l = []) : SlWPu lo hi w l (.slice a 0 cap)
  | mk (b o cap : Nat) (hc : PusAt w b o l) (h1 : lo ≤ b) (h2 : b < hi) (hb : b < w.heap.size) (hf : ∀ j, w.frozen? ⟨b, j, none⟩ = false) (hl : l.length ≤ cap) : SlWPu lo hi w l (.slice (some ⟨b, o, none⟩) l.length cap)
theorem SlWPu.sl {lo hi : Nat} {w : World} {l : List Pu} {v : Value} (h : SlWPu lo hi w l v) : SlPu w l v := by
  cases h with
  | empty a cap h => exact .empty a cap h
  | mk b o cap hc _ _ hb _ hl => exact .mk b o cap hc hb hl
theorem SlWPu.below {lo hi : Nat} {w w' : World} {l : List Pu} {v : Value} (h : SlWPu lo hi w l v) (g : Below w.heap.size w w') : SlWPu lo hi w' l v := by
  cases h with
  | empty a cap h => exact .empty a cap h
  | mk b o cap hc h1 h2 hb hf hl => exact .mk b o cap (hc.below g hb) h1 h2 (Nat.lt_of_lt_of_le hb g.size) (fun j => (g.frozen (p := ⟨b, j, none⟩) hb).trans (hf j)) hl
theorem SlWPu.out {lo hi lo2 hi2 : Nat} {w w' : World} {l : List Pu} {v : Value} (h : SlWPu lo hi w l v) (g : KeptOut lo2 hi2 w w') (ho : hi ≤ lo2 ∨ hi2 ≤ lo) : SlWPu lo hi w' l v := by
  cases h with
  | empty a cap h => exact .empty a cap h
  | mk b o cap hc h1 h2 hb hf hl => exact .mk b o cap (hc.out g hb (by omega)) h1 h2 (Nat.lt_of_lt_of_le hb g.size) (fun j => (g.frozen hb (by omega)).trans (hf j)) hl
theorem SlWPu.mono {lo hi lo2 hi2 : Nat} {w : World} {l : List Pu} {v : Value} (h : SlWPu lo hi w l v) (h1 : lo2 ≤ lo) (h2 : hi ≤ hi2) : SlWPu lo2 hi2 w l v := by
  cases h with
  | empty a cap h => exact .empty a cap h
  | mk b o cap hc h1 h2 hb hf hl => exact .mk b o cap hc (by omega) (by omega) hb hf hl
theorem SlWPu.form {lo hi : Nat} {w : World} {l : List Pu} {v : Value} (h : SlWPu lo hi w l v) : ∃ a c, v = .slice a l.length c := by
  cases h with
  | empty a cap h => exact ⟨a, cap, by rw [h]; rfl⟩
  | mk b o cap _ _ _ _ _ _ => exact ⟨_, cap, rfl⟩
inductive SlOPu (B : Nat) (w : World) (l : List Pu) : Value → Prop where
  | empty (a : Option Addr) (cap : Nat) (h : l = []) : SlOPu B w l (.slice a 0 cap)
  | mk (b o cap : Nat) (hc : PusAt w b o l) (hB : b < B) (hb : b < w.heap.size) (hl : l.length ≤ cap) : SlOPu B w l (.slice (some ⟨b, o, none⟩) l.length cap)
theorem SlOPu.sl {B : Nat} {w : World} {l : List Pu} {v : Value} (h : SlOPu B w l v) : SlPu w l v := by
  cases h with
  | empty a cap h => exact .empty a cap h
  | mk b o cap hc _ hb hl => exact .mk b o cap hc hb hl
theorem SlOPu.start {w : World} {l : List Pu} {v : Value} (h : SlPu w l v) : SlOPu w.heap.size w l v := by
  cases h with
  | empty a cap h => exact .empty a cap h
  | mk b o cap hc hb hl => exact .mk b o cap hc hb hb hl
theorem SlOPu.below {B : Nat} {w w' : World} {l : List Pu} {v : Value} (h : SlOPu B w l v) (g : Below w.heap.size w w') : SlOPu B w' l v := by
  cases h with
  | empty a cap h => exact .empty a cap h
  | mk b o cap hc hB hb hl => exact .mk b o cap (hc.below g hb) hB (Nat.lt_of_lt_of_le hb g.size) hl
theorem SlOPu.out {B lo hi : Nat} {w w' : World} {l : List Pu} {v : Value} (h : SlOPu B w l v) (g : KeptOut lo hi w w') (ho : B ≤ lo) : SlOPu B w' l v := by
  cases h with
  | empty a cap h => exact .empty a cap h
  | mk b o cap hc hB hb hl => exact .mk b o cap (hc.out g hb (Or.inl (by omega))) hB (Nat.lt_of_lt_of_le hb g.size) hl

def Pu.cells (p : Pu) : List Value := [.int .i8 p.x, .int .i8 p.y, .int .i8 p.side, .int .i16 p.tick]
def flatPu (l : List Pu) : List Value := l.flatMap Pu.cells
theorem flatPu_length (l : List Pu) : (flatPu l).length = l.length * 4 := by
  induction l with
  | nil => rfl
  | cons p l ih => simp only [flatPu, List.flatMap_cons, List.length_append, List.length_cons] at *; rw [ih]; simp only [Pu.cells, List.length_cons, List.length_nil]; omega
theorem Pu_one (p : Pu) : ∀ u ∈ p.cells, u.oneCell' = true := by
  intro u hu
  simp only [Pu.cells, List.mem_cons, List.not_mem_nil, or_false] at hu
  rcases hu with rfl | rfl | rfl | rfl <;> rfl
theorem flatPu_one (l : List Pu) : ∀ u ∈ flatPu l, u.oneCell' = true := by
  intro u hu
  obtain ⟨p, _, hp⟩ := List.mem_flatMap.1 hu
  exact Pu_one p u hp
theorem flatPu_end (l : List Pu) (p : Pu) : flatPu (l ++ [p]) = flatPu l ++ p.cells := by simp [flatPu]
theorem flatPu_get : ∀ (l : List Pu) (i j : Nat) (h : i < l.length), j < 4 → (flatPu l)[i * 4 + j]? = l[i].cells[j]?
  | p :: l, 0, j, _, hj => by
    rw [show flatPu (p :: l) = p.cells ++ flatPu l from List.flatMap_cons, List.getElem?_append_left (by simp [Pu.cells]; omega)]; simp
  | p :: l, i + 1, j, h, hj => by
    rw [show flatPu (p :: l) = p.cells ++ flatPu l from List.flatMap_cons, List.getElem?_append_right (by simp [Pu.cells]; omega)]
    have := flatPu_get l i j (by simpa using h) hj
    simp only [List.getElem_cons_succ]
    rw [← this]
    congr 1
    simp [Pu.cells]; omega
  | [], _, _, h, _ => by simp at h
theorem PusAt.news {w : World} {b o : Nat} {l : List Pu} (h : PusAt w b o l) : ∀ j u, (flatPu l)[j]? = some u → w.cell? ((⟨b, o, none⟩ : Addr).add j) = some u := by
  intro j u hu
  rw [add_none]
  have hj : j < (flatPu l).length := by
    cases hlt : decide (j < (flatPu l).length) with
    | true => simpa using hlt
    | false => rw [List.getElem?_eq_none (by simpa using hlt)] at hu; cases hu
  rw [flatPu_length] at hj
  have hi : j / 4 < l.length := by omega
  have e : j / 4 * 4 + j % 4 = j := by omega
  have hg := flatPu_get l (j / 4) (j % 4) hi (by omega)
  rw [e, hu] at hg
  obtain ⟨h0, h1, h2, h3⟩ := h (j / 4) hi
  have h5 : j % 4 = 0 ∨ j % 4 = 1 ∨ j % 4 = 2 ∨ j % 4 = 3 := by omega
  rw [show o + j = o + j / 4 * 4 + j % 4 by omega]
  rcases h5 with q | q | q | q <;> rw [q] at hg ⊢ <;> simp only [Pu.cells, List.getElem?_cons_zero, List.getElem?_cons_succ, Option.some.injEq] at hg <;> subst hg
  · exact h0
  · exact h1
  · exact h2
  · exact h3
theorem SlWPu.of_owns {w : World} {base : Nat} {e : TypeId} {v : Value} {n : Nat} {l : List Pu} (h : w.ownsRow base e 4 v n (flatPu l)) : SlWPu base w.heap.size w l v := by
  obtain ⟨hl, h | ⟨g, cap, cur, rfl, hb, hg, hn, hm, hs, ht⟩⟩ := h
  · obtain ⟨rfl, rfl⟩ := h
    rw [flatPu_length] at hl
    exact .empty none 0 (List.length_eq_zero_iff.1 (by omega))
  · rw [flatPu_length] at hl
    obtain rfl : n = l.length := by omega
    have hlt : g < w.heap.size := (Array.getElem?_eq_some_iff.1 hg).1
    have hcell : ∀ j, j < l.length * 4 → w.cell? ⟨g, j, none⟩ = (flatPu l)[j]? := by
      intro j hj
      rw [← ht, List.getElem?_take_of_lt hj]
      have hjs : j < cur.toList.length := by rw [Array.length_toList, hs]; exact Nat.lt_of_lt_of_le hj (Nat.mul_le_mul_right 4 hn)
      rw [List.getElem?_eq_getElem hjs]
      exact (cell_of_row w g j cur e _ hg).trans (by simp)
    refine .mk g 0 cap (fun i hi => ?_) hb hlt hlt (fun j => frozen_of_row w _ j _ _ hg) hn
    have hc : ∀ j, j < 4 → w.cell? ⟨g, 0 + i * 4 + j, none⟩ = l[i].cells[j]? := fun j hj => by rw [Nat.zero_add, hcell _ (by omega), flatPu_get l i j hi hj]
    exact ⟨hc 0 (by omega), hc 1 (by omega), hc 2 (by omega), hc 3 (by omega)⟩
def FilledOPu (w : World) (B o n : Nat) (l : List Pu) (k : Nat) : Prop :=
  B < w.heap.size ∧ (∀ i (h : i < l.length), i < k → PuAt w B (o + i * 4) l[i]) ∧ (∀ j, j < n * 4 → ∃ v, w.cell? ⟨B, o + j, none⟩ = some v) ∧ (∀ j, w.frozen? ⟨B, j, none⟩ = false)
theorem FilledOPu.start {w : World} {B o : Nat} {l0 l : List Pu} (h : PusAt w B o l0) (hb : B < w.heap.size) (hf : ∀ j, w.frozen? ⟨B, j, none⟩ = false) : FilledOPu w B o l0.length l 0 := by
  refine ⟨hb, fun i _ hi => absurd hi (by omega), fun j hj => ?_, hf⟩
  obtain ⟨h0, h1, h2, h3⟩ := h (j / 4) (by omega)
  have : j % 4 = 0 ∨ j % 4 = 1 ∨ j % 4 = 2 ∨ j % 4 = 3 := by omega
  have hj5 : j = j / 4 * 4 + j % 4 := by omega
  rcases this with e | e | e | e <;> rw [e] at hj5 <;> rw [hj5]
  · exact ⟨_, h0⟩
  · exact ⟨_, by rw [← Nat.add_assoc]; exact h1⟩
  · exact ⟨_, by rw [← Nat.add_assoc]; exact h2⟩
  · exact ⟨_, by rw [← Nat.add_assoc]; exact h3⟩
theorem FilledOPu.store {w : World} {B o n k : Nat} {l : List Pu} {p : Pu} (h : FilledOPu w B o n l k) (hk : k < l.length) (hp : l[k] = p) (hkn : k < n) : FilledOPu (World.setPu w B (o + k * 4) p) B o n l (k + 1) := by
  obtain ⟨h1, h2, h3, h4⟩ := h
  refine ⟨by simpa [World.setPu, World.size_setCell] using h1, fun i hi hik => ?_, fun j hj => ?_, fun j => ?_⟩
  · by_cases e : i = k
    · subst e
      rw [hp]
      exact setPu_at (fun j hj => by rw [Nat.add_assoc]; exact h3 _ (by omega))
    · obtain ⟨a0, a1, a2, a3⟩ := h2 i hi (by omega)
      exact ⟨by rw [setPu_other (by omega)]; exact a0, by rw [setPu_other (by omega)]; exact a1, by rw [setPu_other (by omega)]; exact a2, by rw [setPu_other (by omega)]; exact a3⟩
  · obtain ⟨v, hv⟩ := h3 j hj
    unfold World.setPu
    obtain ⟨v1, g1⟩ := cell_set (j := o + k * 4) (v := .int .i8 p.x) hv
    obtain ⟨v2, g2⟩ := cell_set (j := o + k * 4 + 1) (v := .int .i8 p.y) g1
    obtain ⟨v3, g3⟩ := cell_set (j := o + k * 4 + 2) (v := .int .i8 p.side) g2
    exact cell_set (j := o + k * 4 + 3) (v := .int .i16 p.tick) g3
  · unfold World.setPu
    simp only [World.frozen?_setCell]
    exact h4 j

def markPu (k : Int) : Pu := ⟨IntKind.i8.wrap (k), IntKind.i8.wrap (k + 1), IntKind.i8.wrap (k + 1 + 1), IntKind.i16.wrap (k + 1 + 1 + 1)⟩
def marksPu (k : Int) (n : Nat) : List Pu := (List.range n).map fun i : Nat => markPu (k + 4 * (i : Int))
theorem marksPu_length (k : Int) (n : Nat) : (marksPu k n).length = n := by simp [marksPu]
theorem marksPu_get (k : Int) (n i : Nat) (h : i < (marksPu k n).length) : (marksPu k n)[i] = markPu (k + 4 * i) := by simp [marksPu]

end Go.Proofs.YtflkfkbdgekpkaaDoor

/- Slices of the type Fall that a call has made: where they lie; the laws' own marking of them; copies. -/
namespace Go.Proofs.YtflkfkbdgekpkaaDoor
open Go.ChangeShapes Go.WideShapes Go.ChangeAt Go.RowKit Go.Joins Go.Deep
set_option linter.unusedVariables false

theorem FlsAt.out {lo hi : Nat} {w w' : World} {b o : Nat} {l : List Fl} (h : FlsAt w b o l) (g : KeptOut lo hi w w') (hb : b < w.heap.size) (ho : b < lo ∨ hi ≤ b) : FlsAt w' b o l := by
  intro i hi'
  obtain ⟨h0, h1, h2⟩ := h i hi'
  exact ⟨(g.cell hb ho).trans h0, (g.cell hb ho).trans h1, (g.cell hb ho).trans h2⟩
inductive SlWFl (lo hi : Nat) (w : World) (l : List Fl) : Value → Prop where
  | empty (a : Option Addr) (cap : Nat) (h : l = []) : SlWFl lo hi w l (.slice a 0 cap)
  | mk (b o cap : Nat) (hc : FlsAt w b o l) (h1 : lo ≤ b) (h2 : b < hi) (hb : b < w.heap.size) (hf : ∀ j, w.frozen? ⟨b, j, none⟩ = false) (hl : l.length ≤ cap) : SlWFl lo hi w l (.slice (some ⟨b, o, none⟩) l.length cap)
theorem SlWFl.sl {lo hi : Nat} {w : World} {l : List Fl} {v : Value} (h : SlWFl lo hi w l v) : SlFl w l v := by
  cases h with
  | empty a cap h => exact .empty a cap h
  | mk b o cap hc _ _ hb _ hl => exact .mk b o cap hc hb hl
theorem SlWFl.below {lo hi : Nat} {w w' : World} {l : List Fl} {v : Value} (h : SlWFl lo hi w l v) (g : Below w.heap.size w w') : SlWFl lo hi w' l v := by
  cases h with
  | empty a cap h => exact .empty a cap h
  | mk b o cap hc h1 h2 hb hf hl => exact .mk b o cap (hc.below g hb) h1 h2 (Nat.lt_of_lt_of_le hb g.size) (fun j => (g.frozen (p := ⟨b, j, none⟩) hb).trans (hf j)) hl
theorem SlWFl.out {lo hi lo2 hi2 : Nat} {w w' : World} {l : List Fl} {v : Value} (h : SlWFl lo hi w l v) (g : KeptOut lo2 hi2 w w') (ho : hi ≤ lo2 ∨ hi2 ≤ lo) : SlWFl lo hi w' l v := by
  cases h with
  | empty a cap h => exact .empty a cap h
  | mk b o cap hc h1 h2 hb hf hl => exact .mk b o cap (hc.out g hb (by omega)) h1 h2 (Nat.lt_of_lt_of_le hb g.size) (fun j => (g.frozen hb (by omega)).trans (hf j)) hl
theorem SlWFl.mono {lo hi lo2 hi2 : Nat} {w : World} {l : List Fl} {v : Value} (h : SlWFl lo hi w l v) (h1 : lo2 ≤ lo) (h2 : hi ≤ hi2) : SlWFl lo2 hi2 w l v := by
  cases h with
  | empty a cap h => exact .empty a cap h
  | mk b o cap hc h1 h2 hb hf hl => exact .mk b o cap hc (by omega) (by omega) hb hf hl
theorem SlWFl.form {lo hi : Nat} {w : World} {l : List Fl} {v : Value} (h : SlWFl lo hi w l v) : ∃ a c, v = .slice a l.length c := by
  cases h with
  | empty a cap h => exact ⟨a, cap, by rw [h]; rfl⟩
  | mk b o cap _ _ _ _ _ _ => exact ⟨_, cap, rfl⟩
inductive SlOFl (B : Nat) (w : World) (l : List Fl) : Value → Prop where
  | empty (a : Option Addr) (cap : Nat) (h : l = []) : SlOFl B w l (.slice a 0 cap)
  | mk (b o cap : Nat) (hc : FlsAt w b o l) (hB : b < B) (hb : b < w.heap.size) (hl : l.length ≤ cap) : SlOFl B w l (.slice (some ⟨b, o, none⟩) l.length cap)
theorem SlOFl.sl {B : Nat} {w : World} {l : List Fl} {v : Value} (h : SlOFl B w l v) : SlFl w l v := by
  cases h with
  | empty a cap h => exact .empty a cap h
  | mk b o cap hc _ hb hl => exact .mk b o cap hc hb hl
theorem SlOFl.start {w : World} {l : List Fl} {v : Value} (h : SlFl w l v) : SlOFl w.heap.size w l v := by
  cases h with
  | empty a cap h => exact .empty a cap h
  | mk b o cap hc hb hl => exact .mk b o cap hc hb hb hl
theorem SlOFl.below {B : Nat} {w w' : World} {l : List Fl} {v : Value} (h : SlOFl B w l v) (g : Below w.heap.size w w') : SlOFl B w' l v := by
  cases h with
  | empty a cap h => exact .empty a cap h
  | mk b o cap hc hB hb hl => exact .mk b o cap (hc.below g hb) hB (Nat.lt_of_lt_of_le hb g.size) hl
theorem SlOFl.out {B lo hi : Nat} {w w' : World} {l : List Fl} {v : Value} (h : SlOFl B w l v) (g : KeptOut lo hi w w') (ho : B ≤ lo) : SlOFl B w' l v := by
  cases h with
  | empty a cap h => exact .empty a cap h
  | mk b o cap hc hB hb hl => exact .mk b o cap (hc.out g hb (Or.inl (by omega))) hB (Nat.lt_of_lt_of_le hb g.size) hl

def Fl.cells (p : Fl) : List Value := [.int .i64 p.tick, .int .i8 p.frm, .int .i64 p.who]
def flatFl (l : List Fl) : List Value := l.flatMap Fl.cells
theorem flatFl_length (l : List Fl) : (flatFl l).length = l.length * 3 := by
  induction l with
  | nil => rfl
  | cons p l ih => simp only [flatFl, List.flatMap_cons, List.length_append, List.length_cons] at *; rw [ih]; simp only [Fl.cells, List.length_cons, List.length_nil]; omega
theorem Fl_one (p : Fl) : ∀ u ∈ p.cells, u.oneCell' = true := by
  intro u hu
  simp only [Fl.cells, List.mem_cons, List.not_mem_nil, or_false] at hu
  rcases hu with rfl | rfl | rfl <;> rfl
theorem flatFl_one (l : List Fl) : ∀ u ∈ flatFl l, u.oneCell' = true := by
  intro u hu
  obtain ⟨p, _, hp⟩ := List.mem_flatMap.1 hu
  exact Fl_one p u hp
theorem flatFl_end (l : List Fl) (p : Fl) : flatFl (l ++ [p]) = flatFl l ++ p.cells := by simp [flatFl]
theorem flatFl_get : ∀ (l : List Fl) (i j : Nat) (h : i < l.length), j < 3 → (flatFl l)[i * 3 + j]? = l[i].cells[j]?
  | p :: l, 0, j, _, hj => by
    rw [show flatFl (p :: l) = p.cells ++ flatFl l from List.flatMap_cons, List.getElem?_append_left (by simp [Fl.cells]; omega)]; simp
  | p :: l, i + 1, j, h, hj => by
    rw [show flatFl (p :: l) = p.cells ++ flatFl l from List.flatMap_cons, List.getElem?_append_right (by simp [Fl.cells]; omega)]
    have := flatFl_get l i j (by simpa using h) hj
    simp only [List.getElem_cons_succ]
    rw [← this]
    congr 1
    simp [Fl.cells]; omega
  | [], _, _, h, _ => by simp at h
theorem FlsAt.news {w : World} {b o : Nat} {l : List Fl} (h : FlsAt w b o l) : ∀ j u, (flatFl l)[j]? = some u → w.cell? ((⟨b, o, none⟩ : Addr).add j) = some u := by
  intro j u hu
  rw [add_none]
  have hj : j < (flatFl l).length := by
    cases hlt : decide (j < (flatFl l).length) with
    | true => simpa using hlt
    | false => rw [List.getElem?_eq_none (by simpa using hlt)] at hu; cases hu
  rw [flatFl_length] at hj
  have hi : j / 3 < l.length := by omega
  have e : j / 3 * 3 + j % 3 = j := by omega
  have hg := flatFl_get l (j / 3) (j % 3) hi (by omega)
  rw [e, hu] at hg
  obtain ⟨h0, h1, h2⟩ := h (j / 3) hi
  have h5 : j % 3 = 0 ∨ j % 3 = 1 ∨ j % 3 = 2 := by omega
  rw [show o + j = o + j / 3 * 3 + j % 3 by omega]
  rcases h5 with q | q | q <;> rw [q] at hg ⊢ <;> simp only [Fl.cells, List.getElem?_cons_zero, List.getElem?_cons_succ, Option.some.injEq] at hg <;> subst hg
  · exact h0
  · exact h1
  · exact h2
theorem SlWFl.of_owns {w : World} {base : Nat} {e : TypeId} {v : Value} {n : Nat} {l : List Fl} (h : w.ownsRow base e 3 v n (flatFl l)) : SlWFl base w.heap.size w l v := by
  obtain ⟨hl, h | ⟨g, cap, cur, rfl, hb, hg, hn, hm, hs, ht⟩⟩ := h
  · obtain ⟨rfl, rfl⟩ := h
    rw [flatFl_length] at hl
    exact .empty none 0 (List.length_eq_zero_iff.1 (by omega))
  · rw [flatFl_length] at hl
    obtain rfl : n = l.length := by omega
    have hlt : g < w.heap.size := (Array.getElem?_eq_some_iff.1 hg).1
    have hcell : ∀ j, j < l.length * 3 → w.cell? ⟨g, j, none⟩ = (flatFl l)[j]? := by
      intro j hj
      rw [← ht, List.getElem?_take_of_lt hj]
      have hjs : j < cur.toList.length := by rw [Array.length_toList, hs]; exact Nat.lt_of_lt_of_le hj (Nat.mul_le_mul_right 3 hn)
      rw [List.getElem?_eq_getElem hjs]
      exact (cell_of_row w g j cur e _ hg).trans (by simp)
    refine .mk g 0 cap (fun i hi => ?_) hb hlt hlt (fun j => frozen_of_row w _ j _ _ hg) hn
    have hc : ∀ j, j < 3 → w.cell? ⟨g, 0 + i * 3 + j, none⟩ = l[i].cells[j]? := fun j hj => by rw [Nat.zero_add, hcell _ (by omega), flatFl_get l i j hi hj]
    exact ⟨hc 0 (by omega), hc 1 (by omega), hc 2 (by omega)⟩
def FilledOFl (w : World) (B o n : Nat) (l : List Fl) (k : Nat) : Prop :=
  B < w.heap.size ∧ (∀ i (h : i < l.length), i < k → FlAt w B (o + i * 3) l[i]) ∧ (∀ j, j < n * 3 → ∃ v, w.cell? ⟨B, o + j, none⟩ = some v) ∧ (∀ j, w.frozen? ⟨B, j, none⟩ = false)
theorem FilledOFl.start {w : World} {B o : Nat} {l0 l : List Fl} (h : FlsAt w B o l0) (hb : B < w.heap.size) (hf : ∀ j, w.frozen? ⟨B, j, none⟩ = false) : FilledOFl w B o l0.length l 0 := by
  refine ⟨hb, fun i _ hi => absurd hi (by omega), fun j hj => ?_, hf⟩
  obtain ⟨h0, h1, h2⟩ := h (j / 3) (by omega)
  have : j % 3 = 0 ∨ j % 3 = 1 ∨ j % 3 = 2 := by omega
  have hj5 : j = j / 3 * 3 + j % 3 := by omega
  rcases this with e | e | e <;> rw [e] at hj5 <;> rw [hj5]
  · exact ⟨_, h0⟩
  · exact ⟨_, by rw [← Nat.add_assoc]; exact h1⟩
  · exact ⟨_, by rw [← Nat.add_assoc]; exact h2⟩
theorem FilledOFl.store {w : World} {B o n k : Nat} {l : List Fl} {p : Fl} (h : FilledOFl w B o n l k) (hk : k < l.length) (hp : l[k] = p) (hkn : k < n) : FilledOFl (World.setFl w B (o + k * 3) p) B o n l (k + 1) := by
  obtain ⟨h1, h2, h3, h4⟩ := h
  refine ⟨by simpa [World.setFl, World.size_setCell] using h1, fun i hi hik => ?_, fun j hj => ?_, fun j => ?_⟩
  · by_cases e : i = k
    · subst e
      rw [hp]
      exact setFl_at (fun j hj => by rw [Nat.add_assoc]; exact h3 _ (by omega))
    · obtain ⟨a0, a1, a2⟩ := h2 i hi (by omega)
      exact ⟨by rw [setFl_other (by omega)]; exact a0, by rw [setFl_other (by omega)]; exact a1, by rw [setFl_other (by omega)]; exact a2⟩
  · obtain ⟨v, hv⟩ := h3 j hj
    unfold World.setFl
    obtain ⟨v1, g1⟩ := cell_set (j := o + k * 3) (v := .int .i64 p.tick) hv
    obtain ⟨v2, g2⟩ := cell_set (j := o + k * 3 + 1) (v := .int .i8 p.frm) g1
    exact cell_set (j := o + k * 3 + 2) (v := .int .i64 p.who) g2
  · unfold World.setFl
    simp only [World.frozen?_setCell]
    exact h4 j

def markFl (k : Int) : Fl := ⟨k, IntKind.i8.wrap (k + 1), k + 1 + 1⟩
def marksFl (k : Int) (n : Nat) : List Fl := (List.range n).map fun i : Nat => markFl (k + 3 * (i : Int))
theorem marksFl_length (k : Int) (n : Nat) : (marksFl k n).length = n := by simp [marksFl]
theorem marksFl_get (k : Int) (n i : Nat) (h : i < (marksFl k n).length) : (marksFl k n)[i] = markFl (k + 3 * i) := by simp [marksFl]

end Go.Proofs.YtflkfkbdgekpkaaDoor

/- LaterPushes: the model. -/
namespace Go.Proofs.YtflkfkbdgekpkaaDoor
open Go.ChangeShapes Go.WideShapes Go.ChangeAt Go.RowKit Go.Joins Go.Deep
set_option linter.unusedVariables false

def laterOne (by' : Int) (p : Pu) : Bool := decide (0 ≤ p.tick ∧ p.tick ≤ 1000 ∧ 0 ≤ p.tick + by' ∧ p.tick + by' ≤ 1000)
def moved (by' : Int) (p : Pu) : Pu := ⟨p.x, p.y, p.side, p.tick + by'⟩
def laterOk (by' : Int) : List Pu → Bool
  | [] => true
  | p :: l => laterOne by' p && laterOk by' l
def laterQ (by' : Int) (l : List Pu) : List Pu × Int :=
  if -1000 ≤ by' ∧ by' ≤ 1000 then (if l.length ≤ 20 then (if laterOk by' l = true then (l.map (moved by'), 0) else ([], 3)) else ([], 3)) else ([], 2)
def PushPost (lr : List Pu) (C : Int) (w : World) (e : Ending) (w' : World) : Prop :=
  ∃ v, e = .returned (.tuple #[v, .int .i64 C]) ∧ SlWPu w.heap.size w'.heap.size w' lr v ∧ Below w.heap.size w w'
theorem pair_inj {a c : List Pu} {b d : Int} (h : (a, b) = (c, d)) : a = c ∧ b = d := by injection h with h1 h2; exact ⟨h1, h2⟩
theorem i16_of {n : Int} (h : (Lit.int .i16 n).wf = true) : -32768 ≤ n ∧ n ≤ 32767 := bounds_i16 h

end Go.Proofs.YtflkfkbdgekpkaaDoor

/- LaterPushes: the program. -/
namespace Go.Proofs.YtflkfkbdgekpkaaDoor
open Go.ChangeShapes Go.WideShapes Go.ChangeAt Go.RowKit Go.Joins Go.Deep
set_option linter.unusedVariables false

def MixAt (w : World) (g o : Nat) (by' : Int) (l : List Pu) (k : Nat) : Prop := ∀ i (h : i < l.length), PuAt w g (o + i * 4) (if i < k then moved by' l[i] else l[i])
theorem MixAt.start {w : World} {g o : Nat} {by' : Int} {l : List Pu} (h : PusAt w g o l) : MixAt w g o by' l 0 := fun i hi => by rw [if_neg (by omega)]; exact h i hi
theorem MixAt.stop {w : World} {g o : Nat} {by' : Int} {l : List Pu} (h : MixAt w g o by' l l.length) : PusAt w g o (l.map (moved by')) := fun i hi => by
  have hl : i < l.length := by simpa using hi
  have := h i hl
  rw [if_pos hl] at this
  simpa using this
theorem MixAt.below {w w' : World} {g o : Nat} {by' : Int} {l : List Pu} {k : Nat} (h : MixAt w g o by' l k) (hb : Below w.heap.size w w') (hg : g < w.heap.size) : MixAt w' g o by' l k := fun i hi => (h i hi).below hb hg
theorem MixAt.store {w : World} {g o : Nat} {by' : Int} {l : List Pu} {k : Nat} {p : Pu} (h : MixAt w g o by' l k) (hk : k < l.length) (hp : l[k] = p) : MixAt (w.setCell ⟨g, o + k * 4 + 3, none⟩ (.int .i16 (p.tick + by'))) g o by' l (k + 1) := by
  intro i hi
  have hx := h i hi
  have ne : ∀ a : Nat, a ≠ o + k * 4 + 3 → (⟨g, o + k * 4 + 3, none⟩ : Addr) ≠ ⟨g, a, none⟩ := by intro a ha e; injection e with _ h2 _; exact ha h2.symm
  by_cases e : i = k
  · subst e
    rw [if_neg (by omega)] at hx
    rw [if_pos (by omega)]
    obtain ⟨h0, h1, h2, h3⟩ := hx
    rw [hp] at h0 h1 h2 h3 ⊢
    exact ⟨by rw [World.cell?_setCell_other _ _ _ _ (ne _ (by omega))]; exact h0, by rw [World.cell?_setCell_other _ _ _ _ (ne _ (by omega))]; exact h1, by rw [World.cell?_setCell_other _ _ _ _ (ne _ (by omega))]; exact h2, World.cell?_setCell_same _ _ _ h3⟩
  · have hc : (if i < k + 1 then moved by' l[i] else l[i]) = (if i < k then moved by' l[i] else l[i]) := by
      by_cases h : i < k
      · rw [if_pos h, if_pos (by omega)]
      · rw [if_neg h, if_neg (by omega)]
    rw [hc]
    obtain ⟨h0, h1, h2, h3⟩ := hx
    exact ⟨by rw [World.cell?_setCell_other _ _ _ _ (ne _ (by omega))]; exact h0, by rw [World.cell?_setCell_other _ _ _ _ (ne _ (by omega))]; exact h1, by rw [World.cell?_setCell_other _ _ _ _ (ne _ (by omega))]; exact h2, by rw [World.cell?_setCell_other _ _ _ _ (ne _ (by omega))]; exact h3⟩

theorem isPushTick_any (t : Int) (w : World) (r : Bool) (hr : r = decide (0 ≤ t ∧ t ≤ 1000)) :
    Calls Tryd.prog 75 #[.int .i64 t] w fun e w' => e = .returned (.bool r) ∧ w = w' := by
  by_cases h1 : 0 ≤ t
  · by_cases h2 : t ≤ 1000
    · obtain rfl : r = true := by rw [hr]; simp; omega
      clear hr
      go_enter Tryd.func75, Tryd.ntmps75
      go_wp2
      go_ret
      exact ⟨rfl, rfl⟩
    · obtain rfl : r = false := by rw [hr]; simp; omega
      have h3 : decide (t ≤ 1000) = false := by simp; omega
      clear hr h2
      go_enter Tryd.func75, Tryd.ntmps75
      go_wp2
      go_ret
      exact ⟨rfl, rfl⟩
  · obtain rfl : r = false := by rw [hr]; simp; omega
    have h3 : decide (0 ≤ t) = false := by simp; omega
    clear hr h1
    go_enter Tryd.func75, Tryd.ntmps75
    go_wp2
    go_ret
    exact ⟨rfl, rfl⟩
end Go.Proofs.YtflkfkbdgekpkaaDoor

/- ValidPushes: the program; its games. -/
namespace Go.Proofs.YtflkfkbdgekpkaaDoor
open Go.ChangeShapes Go.WideShapes Go.ChangeAt Go.RowKit Go.Joins Go.Deep
set_option linter.unusedVariables false

def Pu.told (lb : List Pc) (p : Pu) : Bool := decide (0 ≤ p.side ∧ p.side ≤ 3) && decide (0 ≤ p.tick ∧ p.tick ≤ 1000) && decide (0 ≤ findFrom p.x p.y lb 0)
def tolds (lb : List Pc) : List Pu → Bool
  | [] => true
  | p :: l => p.told lb && tolds lb l
theorem found_in {x y : Int} : ∀ {lb : List Pc} {j : Int}, (∀ q ∈ lb, q.ok = true) → 0 ≤ j → 0 ≤ findFrom x y lb j → (0 ≤ x ∧ x ≤ 23) ∧ (0 ≤ y ∧ y ≤ 23)
  | [], j, _, _, h => by simp [findFrom] at h
  | q :: lb, j, hok, hj, h => by
    unfold findFrom at h
    split at h
    · rename_i he
      have := Pc.ok_at (hok q (List.mem_cons_self ..))
      rw [he.1, he.2] at this
      exact this
    · exact found_in (fun r hr => hok r (List.mem_cons_of_mem _ hr)) (by omega) h
theorem tolds_eq {lb : List Pc} (hok : ∀ q ∈ lb, q.ok = true) : ∀ l : List Pu, (plains l && founds lb l) = tolds lb l
  | [] => rfl
  | p :: l => by
    have ih := tolds_eq hok l
    simp only [plains, founds, tolds, ← ih]
    have key : (p.plain && decide (0 ≤ findFrom p.x p.y lb 0)) = p.told lb := by
      unfold Pu.plain Pu.told
      by_cases hf : 0 ≤ findFrom p.x p.y lb 0
      · have := found_in hok (by omega) hf
        simp [hf, this.1.1, this.1.2, this.2.1, this.2.2, Bool.and_assoc]
      · simp [hf]
    rw [← key]
    cases p.plain <;> cases plains l <;> simp
theorem MapAt.row {w : World} {B g : Nat} {l : List Pc} {cs : Array Value} (h : MapAt w B l) (hne : B ≠ g) : MapAt (w.setRow g cs) B l := by
  obtain ⟨es, c, h1, h2⟩ := h
  exact ⟨es, c, blk_row h1 hne, h2⟩
/-- what gameOf answers -/
def GamePost (R : Bool) (wd hi : Int) (lb : List Pc) (vb vp : Value) (w : World) (e : Ending) (w' : World) : Prop :=
  (R = true → ∃ B, e = .returned (.tuple #[.agg #[.int .i8 wd, .int .i8 hi, .map (some B), vb, vp], .bool true]) ∧ MapAt w' B lb) ∧
  (R = false → e = .returned (.tuple #[.agg #[.int .i8 0, .int .i8 0, .map none, .slice none 0 0, .slice none 0 0], .bool false])) ∧ Below w.heap.size w w'

set_option maxRecDepth 100000 in
set_option maxHeartbeats 4000000 in
theorem gameOf_any (b o m cap : Nat) (wd hi : Int) (lb : List Pc) (pb n : Nat) (l : List Pu) (w : World) (hm : lb.length = m) (hq : PcsAt w b o lb) (hbb : b < w.heap.size) (hcap : m ≤ cap) (h8 : All8 lb) (hmm : m ≤ 1048576)
    (hn : l.length = n) (hp : PusAt w pb 0 l) (hb : pb < w.heap.size) (hw : PusWf l) (hmax : n ≤ 1048576) (R : Bool) (hR : R = (boardOk wd hi lb && pushesOk lb l)) :
    Calls Tryd.prog 45 #[.agg #[.int .i8 wd, .int .i8 hi, .slice (some ⟨b, o, none⟩) m cap], .slice (some ⟨pb, 0, none⟩) n n] w (GamePost R wd hi lb (.slice (some ⟨b, o, none⟩) m cap) (.slice (some ⟨pb, 0, none⟩) n n) w) := by
  have bA : Below (w.alloc (.cells #[.int .i8 wd, .int .i8 hi, .slice (some ⟨b, o, none⟩) m cap] 34)).heap.size (w.alloc (.cells #[.int .i8 wd, .int .i8 hi, .slice (some ⟨b, o, none⟩) m cap] 34)) ((w.alloc (.cells #[.int .i8 wd, .int .i8 hi, .slice (some ⟨b, o, none⟩) m cap] 34)).alloc (.cells #[.int .i8 0, .int .i8 0, .map none, .slice none 0 0, .slice none 0 0] 90)) := kAlloc (Below.refl _ _) _
  have bW : Below w.heap.size w ((w.alloc (.cells #[.int .i8 wd, .int .i8 hi, .slice (some ⟨b, o, none⟩) m cap] 34)).alloc (.cells #[.int .i8 0, .int .i8 0, .map none, .slice none 0 0, .slice none 0 0] 90)) := by repeat (first | with_reducible exact Below.refl _ _ | (with_reducible refine kSet ?_ ?hB _; case hB => (simp; try omega)) | with_reducible refine kAlloc ?_ _ | with_reducible refine Below.drew ?_ | with_reducible refine kDrewN ?_ _ | with_reducible refine kTrans ?_ (by assumption))
  have qb := (BdAt.box w wd hi (.slice (some ⟨b, o, none⟩) m cap) 34).below bA (by simp)
  have rs : ((w.alloc (.cells #[.int .i8 wd, .int .i8 hi, .slice (some ⟨b, o, none⟩) m cap] 34)).alloc (.cells #[.int .i8 0, .int .i8 0, .map none, .slice none 0 0, .slice none 0 0] 90)).heap[w.heap.size + 1]? = some (.cells #[.int .i8 0, .int .i8 0, .map none, .slice none 0 0, .slice none 0 0] 90 (0, 0)) := by
    have := heap_alloc_new (w.alloc (.cells #[.int .i8 wd, .int .i8 hi, .slice (some ⟨b, o, none⟩) m cap] 34)) (.cells #[.int .i8 0, .int .i8 0, .map none, .slice none 0 0, .slice none 0 0] 90)
    simpa only [World.size_alloc] using this
  have sz : ((w.alloc (.cells #[.int .i8 wd, .int .i8 hi, .slice (some ⟨b, o, none⟩) m cap] 34)).alloc (.cells #[.int .i8 0, .int .i8 0, .map none, .slice none 0 0, .slice none 0 0] 90)).heap.size = w.heap.size + 1 + 1 := by simp
  obtain ⟨Rb, hRb⟩ : ∃ Rb, Rb = boardOk wd hi lb := ⟨_, rfl⟩
  have Hn := Lib.hid hn
  have HW := Lib.hid hw
  have HR := Lib.hid hR
  go_enter Tryd.func45, Tryd.ntmps45
  go_wp2_with fail
  generalize (w.alloc (.cells #[.int .i8 wd, .int .i8 hi, .slice (some ⟨b, o, none⟩) m cap] 34)).alloc (.cells #[.int .i8 0, .int .i8 0, .map none, .slice none 0 0, .slice none 0 0] 90) = W0 at *
  refine (layoutOf_any b o m cap wd hi lb _ hm (hq.below bW hbb) (Nat.lt_of_lt_of_le hbb bW.size) hcap h8 hmm Rb hRb).mono ?_
  cases Rb with
  | false =>
    rintro e w1 ⟨_, h1, hb1⟩
    obtain rfl := h1 rfl
    obtain rfl : R = false := by rw [HR.out, ← hRb]; simp
    have T1 := kTrans bW hb1
    have rs1 := (hb1.block (w.heap.size + 1) (by omega)).trans rs
    have hz1 : w.heap.size + 1 < w1.heap.size := by have := hb1.size; omega
    clear h1 hR hn hw hm hq hp bA bW qb rs sz hRb hb1 h8
    have rsb := blk_below rs1 (kAlloc (Below.refl _ _) (.cells #[.int .i8 0, .int .i8 0, .map none] 82))
    go_wp2_with (refine wpList_store_row rfl 90 _ _ rfl (w.heap.size + 1) #[.int .i8 0, .int .i8 0, .map none, .slice none 0 0, .slice none 0 0] rfl rfl 90 _ rsb (by kernel_rfl) (by kernel_rfl) (by kernel_rfl) ?_)
    refine bodyPost_ret (v := .tuple #[.agg #[.int .i8 0, .int .i8 0, .map none, .slice none 0 0, .slice none 0 0], .bool false]) (results_cell_tmp rfl _ _ (w.heap.size + 1) 90 #[.int .i8 0, .int .i8 0, .map none, .slice none 0 0, .slice none 0 0] (0, 0) _ _ rfl rfl (setRow_heap _ _ _ _ _ _ rsb) Tryd.underlying90 rfl (by kernel_rfl)) rfl ?_
    exact ⟨(fun h => nomatch h), fun _ => rfl, kRowW (by repeat (first | with_reducible exact Below.refl _ _ | (with_reducible refine kSet ?_ ?hB _; case hB => (simp; try omega)) | with_reducible refine kAlloc ?_ _ | with_reducible refine Below.drew ?_ | with_reducible refine kDrewN ?_ _ | with_reducible refine kTrans ?_ (by assumption))) (by omega) _⟩
  | true =>
    rintro e w1 ⟨h1, _, hb1⟩
    obtain ⟨B, rfl, hmp⟩ := h1 rfl
    have hok : ∀ q ∈ lb, q.ok = true := boardOk_ok hRb.symm
    obtain ⟨F, hF⟩ : ∃ F, tolds lb l = F := ⟨_, rfl⟩
    have hRF : R = (decide (n ≤ 20) && F) := by
      rw [HR.out, ← hRb, ← hF, ← tolds_eq hok l]; unfold pushesOk; rw [hn]; simp [Bool.and_assoc]
    have HRF := Lib.hid hRF
    have HF : Hid (tolds lb (l.drop 0) = F) := Lib.hid hF
    have hal : Below w1.heap.size w1 (w1.alloc (.cells #[.int .i8 wd, .int .i8 hi, .map (some B)] 82)) := by repeat (first | with_reducible exact Below.refl _ _ | (with_reducible refine kSet ?_ ?hB _; case hB => (simp; try omega)) | with_reducible refine kAlloc ?_ _ | with_reducible refine Below.drew ?_ | with_reducible refine kDrewN ?_ _ | with_reducible refine kTrans ?_ (by assumption))
    have T1 := kTrans bW hb1
    have rs1 := Lib.hid ((hb1.block (w.heap.size + 1) (by omega)).trans rs)
    have qb1 := Lib.hid (qb.below hb1 (by omega))
    have hz1 : w.heap.size + 1 < w1.heap.size := by have := hb1.size; omega
    have hz1' : w.heap.size < w1.heap.size := by omega
    have T2 := kTrans T1 hal
    have rs2 := Lib.hid ((hal.block (w.heap.size + 1) hz1).trans rs1.out)
    have qb2 := Lib.hid (qb1.out.below hal hz1')
    have ql2 := Lib.hid (BdAt.box w1 wd hi (.map (some B)) 82)
    have qm2 := Lib.hid (hmp.below hal)
    have T1k := Lib.hid T1
    clear h1 hR hn hw hm bA bW qb rs sz hRb hb1 h8 hmp hF hRF hok T1 hal
    by_cases h20 : n ≤ 20
    · obtain rfl : R = F := by rw [HRF.out]; simp [h20]
      have e1 : decide ((20 : Int) < (n : Int)) = false := by simp; omega
      have e2 : decide (20 < n) = false := by simp; omega
      go_wp2
      go_loopw [9, 25] (fun _ i wr => ∃ k : Nat, k ≤ n ∧ i = .int .i64 k ∧ Hid (tolds lb (l.drop k) = R) ∧ Hid (BdAt wr w1.heap.size 0 wd hi (.map (some B))) ∧ Hid (MapAt wr B lb) ∧ Hid (BdAt wr w.heap.size 0 wd hi (.slice (some ⟨b, o, none⟩) m cap)) ∧ Hid (wr.heap[w.heap.size + 1]? = some (.cells #[.int .i8 0, .int .i8 0, .map none, .slice none 0 0, .slice none 0 0] 90 (0, 0))) ∧ Below w.heap.size w wr) (fun _ i _ => n - (intOf i).toNat)
      case atStart => exact ⟨0, by omega, rfl, HF, ql2, qm2, qb2, rs2, T2⟩
      case round =>
        obtain ⟨k, hk, rfl, hf, ql, qm, qbr, rsr, hbr⟩ := hrel
        clear qb1 rs1 qb2 rs2 ql2 qm2 T2 HF
        have hlw := ql.out.lt
        have hzr : w.heap.size + 1 < wr.heap.size := by omega
        have hzr' : w.heap.size < wr.heap.size := by omega
        obtain ⟨l0, l1, l2⟩ := id ql.out
        simp only [Nat.zero_add] at l1 l2
        by_cases hlt : k < n
        · have hlk : k < l.length := by rw [Hn.out]; exact hlt
          have hpa := (hp.below hbr hb) k hlk
          have hwf := HW.out _ (List.getElem_mem hlk)
          have hd : l.drop k = l[k] :: l.drop (k + 1) := List.drop_eq_getElem_cons hlk
          generalize l[k] = p at hpa hwf hd
          have hq2 := hf.out
          rw [hd] at hq2
          have ht := i16_of hwf.2.2.2
          have hsd := i8_of hwf.2.2.1
          unfold i8 at hsd
          obtain ⟨a0, a1, a2, a3⟩ := hpa
          simp only [Nat.zero_add] at a0 a1 a2 a3
          clear hp hd hwf hf hq
          by_cases g1 : 0 ≤ p.side ∧ p.side ≤ 3
          · go_wp2_with fail
            refine (isSide_any _ _ true (by simp; omega)).mono ?_
            rintro e w2 ⟨rfl, rfl⟩
            by_cases g2 : 0 ≤ p.tick ∧ p.tick ≤ 1000
            · go_wp2_with fail
              refine (isPushTick_any _ _ true (by simp; omega)).mono ?_
              rintro e w2 ⟨rfl, rfl⟩
              obtain ⟨f, hff⟩ : ∃ f, findFrom p.x p.y lb 0 = f := ⟨_, rfl⟩
              have hix := fun W (hW : MapAt W B lb) => indexAt_any wd hi p.x p.y B lb W hW
              rw [hff] at hix
              have Hix := Lib.hid hix
              have Hff := Lib.hid hff
              clear hix hff
              go_wp2_with fail
              refine (Hix.out _ (qm.out.below (by repeat (first | with_reducible exact Below.refl _ _ | (with_reducible refine kSet ?_ ?hB _; case hB => (simp; try omega)) | with_reducible refine kAlloc ?_ _ | with_reducible refine Below.drew ?_ | with_reducible refine kDrewN ?_ _ | with_reducible refine kTrans ?_ (by assumption))))).mono ?_
              rintro e w3 ⟨rfl, hb3⟩
              have hB3 : Below wr.heap.size wr w3 := by repeat (first | with_reducible exact Below.refl _ _ | (with_reducible refine kSet ?_ ?hB _; case hB => (simp; try omega)) | with_reducible refine kAlloc ?_ _ | with_reducible refine Below.drew ?_ | with_reducible refine kDrewN ?_ _ | with_reducible refine kTrans ?_ (by assumption))
              have T3 := kTrans hbr hB3
              by_cases g3 : 0 ≤ f
              · have hR2 : Hid (tolds lb (l.drop (k + 1)) = R) := Lib.hid (by rw [← hq2]; simp [tolds, Pu.told, Hff.out, g1, g2, g3])
                have ql3 := Lib.hid (ql.out.below hB3 hlw)
                have qm3 := Lib.hid (qm.out.below hB3)
                have qb3 := Lib.hid (qbr.out.below hB3 hzr')
                have rs3 := Lib.hid ((hB3.block (w.heap.size + 1) hzr).trans rsr.out)
                clear hq2 ql qm qbr rsr hb3 hB3 hbr
                go_wp2
                exact ⟨⟨k + 1, by omega, by go_num, hR2, ql3, qm3, qb3, rs3, T3⟩, by simp [intOf]; omega⟩
              · obtain rfl : R = false := by rw [← hq2]; simp [tolds, Pu.told, Hff.out]; intro _ _ _ _ h; omega
                have rs3 := (hB3.block (w.heap.size + 1) hzr).trans rsr.out
                have hz3 : w.heap.size + 1 < w3.heap.size := Nat.lt_of_lt_of_le hzr hB3.size
                skip
                clear hq2 ql qm qbr rsr hb3 hB3 hbr
                go_wp2_with (refine wpList_store_row rfl 90 _ _ rfl (w.heap.size + 1) #[.int .i8 0, .int .i8 0, .map none, .slice none 0 0, .slice none 0 0] rfl rfl 90 _ rs3 (by kernel_rfl) (by kernel_rfl) (by kernel_rfl) ?_)
                refine bodyPost_ret (v := .tuple #[.agg #[.int .i8 0, .int .i8 0, .map none, .slice none 0 0, .slice none 0 0], .bool false]) (results_cell_tmp rfl _ _ (w.heap.size + 1) 90 #[.int .i8 0, .int .i8 0, .map none, .slice none 0 0, .slice none 0 0] (0, 0) _ _ rfl rfl (setRow_heap _ _ _ _ _ _ rs3) Tryd.underlying90 rfl (by kernel_rfl)) rfl ?_
                exact ⟨(fun h => nomatch h), fun _ => rfl, kRowW (by repeat (first | with_reducible exact Below.refl _ _ | (with_reducible refine kSet ?_ ?hB _; case hB => (simp; try omega)) | with_reducible refine kAlloc ?_ _ | with_reducible refine Below.drew ?_ | with_reducible refine kDrewN ?_ _ | with_reducible refine kTrans ?_ (by assumption))) (by omega) _⟩
            · obtain rfl : R = false := by rw [← hq2]; simp [tolds, Pu.told]; intro _ _ h3 h4; exact absurd ⟨h3, h4⟩ g2
              clear hq2 ql qm qbr
              go_wp2_with fail
              refine (isPushTick_any _ _ false (by simpa using g2)).mono ?_
              rintro e w2 ⟨rfl, rfl⟩
              have rsb := blk_below rsr.out (kAlloc (Below.refl _ _) (.cells #[.int .i8 p.x, .int .i8 p.y, .int .i8 p.side, .int .i16 p.tick] 88))
              go_wp2_with (refine wpList_store_row rfl 90 _ _ rfl (w.heap.size + 1) #[.int .i8 0, .int .i8 0, .map none, .slice none 0 0, .slice none 0 0] rfl rfl 90 _ rsb (by kernel_rfl) (by kernel_rfl) (by kernel_rfl) ?_)
              refine bodyPost_ret (v := .tuple #[.agg #[.int .i8 0, .int .i8 0, .map none, .slice none 0 0, .slice none 0 0], .bool false]) (results_cell_tmp rfl _ _ (w.heap.size + 1) 90 #[.int .i8 0, .int .i8 0, .map none, .slice none 0 0, .slice none 0 0] (0, 0) _ _ rfl rfl (setRow_heap _ _ _ _ _ _ rsb) Tryd.underlying90 rfl (by kernel_rfl)) rfl ?_
              exact ⟨(fun h => nomatch h), fun _ => rfl, kRowW (by repeat (first | with_reducible exact Below.refl _ _ | (with_reducible refine kSet ?_ ?hB _; case hB => (simp; try omega)) | with_reducible refine kAlloc ?_ _ | with_reducible refine Below.drew ?_ | with_reducible refine kDrewN ?_ _ | with_reducible refine kTrans ?_ (by assumption))) (by omega) _⟩
          · obtain rfl : R = false := by rw [← hq2]; simp [tolds, Pu.told]; intro h3 h4; exact absurd ⟨h3, h4⟩ g1
            clear hq2 ql qm qbr
            go_wp2_with fail
            refine (isSide_any _ _ false (by simpa using g1)).mono ?_
            rintro e w2 ⟨rfl, rfl⟩
            have rsb := blk_below rsr.out (kAlloc (Below.refl _ _) (.cells #[.int .i8 p.x, .int .i8 p.y, .int .i8 p.side, .int .i16 p.tick] 88))
            go_wp2_with (refine wpList_store_row rfl 90 _ _ rfl (w.heap.size + 1) #[.int .i8 0, .int .i8 0, .map none, .slice none 0 0, .slice none 0 0] rfl rfl 90 _ rsb (by kernel_rfl) (by kernel_rfl) (by kernel_rfl) ?_)
            refine bodyPost_ret (v := .tuple #[.agg #[.int .i8 0, .int .i8 0, .map none, .slice none 0 0, .slice none 0 0], .bool false]) (results_cell_tmp rfl _ _ (w.heap.size + 1) 90 #[.int .i8 0, .int .i8 0, .map none, .slice none 0 0, .slice none 0 0] (0, 0) _ _ rfl rfl (setRow_heap _ _ _ _ _ _ rsb) Tryd.underlying90 rfl (by kernel_rfl)) rfl ?_
            exact ⟨(fun h => nomatch h), fun _ => rfl, kRowW (by repeat (first | with_reducible exact Below.refl _ _ | (with_reducible refine kSet ?_ ?hB _; case hB => (simp; try omega)) | with_reducible refine kAlloc ?_ _ | with_reducible refine Below.drew ?_ | with_reducible refine kDrewN ?_ _ | with_reducible refine kTrans ?_ (by assumption))) (by omega) _⟩
        · obtain rfl : k = n := by omega
          obtain rfl : R = true := by rw [← hf.out, List.drop_of_length_le (by rw [Hn.out]; omega)]; rfl
          obtain ⟨k0, k1, k2⟩ := qbr.out
          simp only [Nat.zero_add] at k0 k1 k2
          have hne : B ≠ w.heap.size + 1 := by
            obtain ⟨es, c, hm1, _⟩ := qm.out
            intro e
            rw [e, rsr.out] at hm1
            cases hm1
          clear hp hf hq ql qbr
          go_wp2_with (refine wpList_store_row rfl 90 _ _ rfl (w.heap.size + 1) #[.int .i8 wd, .int .i8 hi, .map (some B), .slice (some ⟨b, o, none⟩) m cap, .slice (some ⟨pb, 0, none⟩) k k] rfl rfl 90 _ rsr.out (by kernel_rfl) (by kernel_rfl) (by kernel_rfl) ?_)
          refine bodyPost_ret (v := .tuple #[.agg #[.int .i8 wd, .int .i8 hi, .map (some B), .slice (some ⟨b, o, none⟩) m cap, .slice (some ⟨pb, 0, none⟩) k k], .bool true]) (results_cell_tmp rfl _ _ (w.heap.size + 1) 90 #[.int .i8 wd, .int .i8 hi, .map (some B), .slice (some ⟨b, o, none⟩) m cap, .slice (some ⟨pb, 0, none⟩) k k] (0, 0) _ _ rfl rfl (setRow_heap _ _ _ _ _ _ rsr.out) Tryd.underlying90 rfl (by kernel_rfl)) rfl ?_
          exact ⟨fun _ => ⟨B, rfl, qm.out.row hne⟩, (fun h => nomatch h), kRowW (by repeat (first | with_reducible exact Below.refl _ _ | (with_reducible refine kSet ?_ ?hB _; case hB => (simp; try omega)) | with_reducible refine kAlloc ?_ _ | with_reducible refine Below.drew ?_ | with_reducible refine kDrewN ?_ _ | with_reducible refine kTrans ?_ (by assumption))) (by omega) _⟩
    · obtain rfl : R = false := by rw [HRF.out]; simp [h20]
      have e1 : decide ((20 : Int) < (n : Int)) = true := by simp; omega
      have e2 : decide (20 < n) = true := by simp; omega
      have T1 : Below w.heap.size w w1 := T1k.out
      clear hp hq HF qb1 qb2 rs2 ql2 qm2 T2
      have rsb := blk_below rs1.out (kAlloc (Below.refl _ _) (.cells #[.int .i8 wd, .int .i8 hi, .map (some B)] 82))
      go_wp2_with (refine wpList_store_row rfl 90 _ _ rfl (w.heap.size + 1) #[.int .i8 0, .int .i8 0, .map none, .slice none 0 0, .slice none 0 0] rfl rfl 90 _ rsb (by kernel_rfl) (by kernel_rfl) (by kernel_rfl) ?_)
      refine bodyPost_ret (v := .tuple #[.agg #[.int .i8 0, .int .i8 0, .map none, .slice none 0 0, .slice none 0 0], .bool false]) (results_cell_tmp rfl _ _ (w.heap.size + 1) 90 #[.int .i8 0, .int .i8 0, .map none, .slice none 0 0, .slice none 0 0] (0, 0) _ _ rfl rfl (setRow_heap _ _ _ _ _ _ rsb) Tryd.underlying90 rfl (by kernel_rfl)) rfl ?_
      exact ⟨(fun h => nomatch h), fun _ => rfl, kRowW (by repeat (first | with_reducible exact Below.refl _ _ | (with_reducible refine kSet ?_ ?hB _; case hB => (simp; try omega)) | with_reducible refine kAlloc ?_ _ | with_reducible refine Below.drew ?_ | with_reducible refine kDrewN ?_ _ | with_reducible refine kTrans ?_ (by assumption))) (by omega) _⟩
end Go.Proofs.YtflkfkbdgekpkaaDoor
