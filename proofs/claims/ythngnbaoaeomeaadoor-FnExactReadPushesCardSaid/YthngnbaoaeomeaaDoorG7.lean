/- Several texts in one: No, NoI, Vp, EqFl, Puk, Flk, Lp, LpI, VpI. -/
import Derived.Test.YthngnbaoaeomeaaDoorG2
import Derived.Deep.RegionHeld3
import Derived.Test.YthngnbaoaeomeaaDoorG3
import Derived.Test.YthngnbaoaeomeaaDoorG1
import Derived.Laws.StructEq
import Derived.Test.YthngnbaoaeomeaaDoorG4
namespace Go.Proofs.YthngnbaoaeomeaaDoor
open Go.ChangeShapes Go.WideShapes Go.ChangeAt Go.RowKit
end Go.Proofs.YthngnbaoaeomeaaDoor
namespace Go.Proofs.YthngnbaoaeomeaaDoor
open Go.ChangeShapes Go.WideShapes Go.ChangeAt Go.RowKit
end Go.Proofs.YthngnbaoaeomeaaDoor
/- ValidPushes: the model. -/
namespace Go.Proofs.YthngnbaoaeomeaaDoor
open Go.ChangeShapes Go.WideShapes Go.ChangeAt Go.RowKit Go.Joins Go.Deep
set_option linter.unusedVariables false

/-- a push as told, wherever there are pieces -/
def Pu.plain (p : Pu) : Bool := decide (0 ≤ p.side ∧ p.side ≤ 3 ∧ 0 ≤ p.tick ∧ p.tick ≤ 1000 ∧ 0 ≤ p.x ∧ p.x ≤ 23 ∧ 0 ≤ p.y ∧ p.y ≤ 23)
def plains : List Pu → Bool
  | [] => true
  | p :: l => p.plain && plains l
def founds (lb : List Pc) : List Pu → Bool
  | [] => true
  | p :: l => decide (0 ≤ findFrom p.x p.y lb 0) && founds lb l
def pushesOk (lb : List Pc) (l : List Pu) : Bool := decide (l.length ≤ 20) && plains l && founds lb l

set_option maxRecDepth 100000 in
set_option maxHeartbeats 2000000 in
theorem l02Plain_any (p : Pu) (b o : Nat) (w : World) (hp : p.wf) (hc : PuAt w b o p) (r : Bool) (hr : r = p.plain) :
    Calls Tryd.prog 69 #[.pointer (some ⟨b, o, none⟩)] w fun e w' => e = .returned (.bool r) ∧ Below w.heap.size w w' := by
  obtain ⟨x, y, side, tick⟩ := p
  obtain ⟨c0, c1, c2, c3⟩ := hc
  obtain ⟨hx, hy, hs, ht⟩ := hp
  simp only at c0 c1 c2 c3 hx hy hs ht
  have hx := i8_of hx
  have hy := i8_of hy
  have hs := i8_of hs
  have ht := bounds_i16 ht
  have Hx := Lib.hid hx
  have Hy := Lib.hid hy
  unfold i8 at hx hy hs
  by_cases g1 : 0 ≤ side ∧ side ≤ 3
  · by_cases g2 : 0 ≤ tick ∧ tick ≤ 1000
    · obtain ⟨r2, hr2⟩ : ∃ r2, r2 = decide (0 ≤ x ∧ x ≤ 23 ∧ 0 ≤ y ∧ y ≤ 23) := ⟨_, rfl⟩
      obtain rfl : r = r2 := by rw [hr, hr2]; simp [Pu.plain, g1, g2]
      have Hr2 := Lib.hid hr2
      clear hr hr2
      go_enter Tryd.func69, Tryd.ntmps69
      go_wp2_with fail
      refine (l01Side_any _ _ true (by simp; omega)).mono ?_
      rintro e w1 ⟨rfl, rfl⟩
      go_wp2_with fail
      refine (l00In_yes _ _ _ _ (by omega) (by omega)).mono ?_
      rintro e w1 ⟨rfl, rfl⟩
      go_wp2_with fail
      refine (l01In_any x y 24 24 _ Hx.out Hy.out (by omega) (by omega) r (by rw [Hr2.out]; simp)).mono ?_
      rintro e w1 ⟨rfl, hb⟩
      go_wp2
      go_ret
      exact ⟨rfl, hb⟩
    · obtain rfl : r = false := by rw [hr]; simp [Pu.plain]; intro _ _ h3 h4; exact absurd ⟨h3, h4⟩ g2
      clear hr
      go_enter Tryd.func69, Tryd.ntmps69
      go_wp2_with fail
      refine (l01Side_any _ _ true (by simp; omega)).mono ?_
      rintro e w1 ⟨rfl, rfl⟩
      go_wp2_with fail
      refine (l00In_no _ _ _ _ (by omega)).mono ?_
      rintro e w1 ⟨rfl, rfl⟩
      go_wp2
      go_ret
      exact ⟨rfl, Below.refl _ _⟩
  · obtain rfl : r = false := by rw [hr]; simp [Pu.plain]; intro h3 h4; exact absurd ⟨h3, h4⟩ g1
    clear hr
    go_enter Tryd.func69, Tryd.ntmps69
    go_wp2_with fail
    refine (l01Side_any _ _ false (by simp; omega)).mono ?_
    rintro e w1 ⟨rfl, rfl⟩
    go_wp2
    go_ret
    exact ⟨rfl, Below.refl _ _⟩
set_option maxRecDepth 100000 in
set_option maxHeartbeats 2000000 in
theorem l02Pushes_any (b n : Nat) (l : List Pu) (w : World) (hn : l.length = n) (hp : PusAt w b 0 l) (hb : b < w.heap.size) (hw : PusWf l) (hmax : n ≤ 1048576) (R : Bool) (hR : R = (decide (n ≤ 20) && plains l)) :
    Calls Tryd.prog 43 #[.slice (some ⟨b, 0, none⟩) n n] w fun e w' => e = .returned (.bool R) ∧ Below w.heap.size w w' := by
  obtain ⟨S, hS⟩ : ∃ S, plains l = S := ⟨_, rfl⟩
  have HS : Hid (plains (l.drop 0) = S) := Lib.hid hS
  have HR : Hid (R = (decide (n ≤ 20) && S)) := Lib.hid (by rw [hR, hS])
  have Hn := Lib.hid hn
  have HW := Lib.hid hw
  clear hn hS hR hw
  go_enter Tryd.func43, Tryd.ntmps43
  go_wp2
  go_loopw [3] (fun i wr => ∃ k : Nat, k ≤ n ∧ i = .int .i64 k ∧ Hid (plains (l.drop k) = S) ∧ Below w.heap.size w wr) (fun i _ => n - (intOf i).toNat)
  case atStart => exact ⟨0, by omega, rfl, HS, Below.refl _ _⟩
  case round =>
    obtain ⟨k, hk, rfl, hf, hbr⟩ := hrel
    by_cases hlt : k < n
    · have hlk : k < l.length := by rw [Hn.out]; exact hlt
      have hpa := (hp.below hbr hb) k hlk
      have hwf := HW.out _ (List.getElem_mem hlk)
      have hd : l.drop k = l[k] :: l.drop (k + 1) := List.drop_eq_getElem_cons hlk
      generalize l[k] = p at hpa hwf hd
      have hq := hf.out
      rw [hd] at hq
      have hL := Lib.hid (fun r hr => l02Plain_any p b (0 + k * 4) wr hwf hpa r hr)
      simp only [Nat.zero_add] at hL
      clear hp hd hpa hf HS
      cases g : p.plain with
      | true =>
        have hR2 : Hid (plains (l.drop (k + 1)) = S) := Lib.hid (by rw [← hq]; simp [plains, g])
        have G := Lib.hid g
        clear hq g
        go_wp2_with fail
        refine (hL.out true G.out.symm).mono ?_
        rintro e w2 ⟨rfl, hb2⟩
        go_wp2
        exact ⟨⟨k + 1, by omega, by go_num, hR2, kTrans hbr hb2⟩, by simp [intOf]; omega⟩
      | false =>
        obtain rfl : S = false := by rw [← hq]; simp [plains, g]
        obtain rfl : R = false := by rw [HR.out]; simp
        have G := Lib.hid g
        clear hq g
        go_wp2_with fail
        refine (hL.out false G.out.symm).mono ?_
        rintro e w2 ⟨rfl, hb2⟩
        go_wp2
        go_ret
        exact ⟨rfl, kTrans hbr hb2⟩
    · obtain rfl : k = n := by omega
      obtain rfl : S = true := by rw [← hf.out, List.drop_of_length_le (by rw [Hn.out]; omega)]; rfl
      clear hp hf HS
      by_cases h20 : k ≤ 20
      · obtain rfl : R = true := by rw [HR.out]; simp [h20]
        have e1 : decide ((k : Int) ≤ 20) = true := by simp; omega
        have e2 : decide (k ≤ 20) = true := by simpa using h20
        go_wp2
        go_ret
        exact ⟨rfl, hbr⟩
      · obtain rfl : R = false := by rw [HR.out]; simp; omega
        have e1 : decide ((k : Int) ≤ 20) = false := by simp; omega
        have e2 : decide (k ≤ 20) = false := by simpa using h20
        go_wp2
        go_ret
        exact ⟨rfl, hbr⟩
end Go.Proofs.YthngnbaoaeomeaaDoor

namespace Go.Proofs.YthngnbaoaeomeaaDoor
open Go.ChangeShapes Go.WideShapes Go.ChangeAt Go.RowKit Go.Joins Go.Deep
end Go.Proofs.YthngnbaoaeomeaaDoor
/- Slices of the type Push that a call has made: where they lie; the laws' own marking of them; copies. -/
namespace Go.Proofs.YthngnbaoaeomeaaDoor
open Go.ChangeShapes Go.WideShapes Go.ChangeAt Go.RowKit Go.Joins Go.Deep
set_option linter.unusedVariables false

theorem PusAt.out {lo hi : Nat} {w w' : World} {b o : Nat} {l : List Pu} (h : PusAt w b o l) (g : KeptOut lo hi w w') (hb : b < w.heap.size) (ho : b < lo ∨ hi ≤ b) : PusAt w' b o l := by
  intro i hi'
  obtain ⟨h0, h1, h2, h3⟩ := h i hi'
  exact ⟨(g.cell hb ho).trans h0, (g.cell hb ho).trans h1, (g.cell hb ho).trans h2, (g.cell hb ho).trans h3⟩
inductive SlWPu (lo hi : Nat) (w : World) (l : List Pu) : Value → Prop where
  | empty (a : Option Addr) (cap : Nat) (h : l = []) : SlWPu lo hi w l (.slice a 0 cap)
  | mk (b o cap : Nat) (hc : PusAt w b o l) (h1 : lo ≤ b) (h2 : b < hi) (hb : b < w.heap.size) (hf : ∀ j, w.frozen? ⟨b, j, none⟩ = false) (hl : l.length ≤ cap) : SlWPu lo hi w l (.slice (some ⟨b, o, none⟩) l.length cap)
theorem SlWPu.sl {lo hi : Nat} {w : World} {l : List Pu} {v : Value} (h : SlWPu lo hi w l v) : SlPu w l v := by
  cases h with
  | empty a cap h => exact .empty a cap h
  | mk b o cap hc _ _ hb _ hl => exact .mk b o cap hc hb hl
theorem SlWPu.below {lo hi : Nat} {w w' : World} {l : List Pu} {v : Value} (h : SlWPu lo hi w l v) (g : Below w.heap.size w w') : SlWPu lo hi w' l v := by
  cases h with
  | empty a cap h => exact .empty a cap h
  | mk b o cap hc h1 h2 hb hf hl => exact .mk b o cap (hc.below g hb) h1 h2 (Nat.lt_of_lt_of_le hb g.size) (fun j => (g.frozen (p := ⟨b, j, none⟩) hb).trans (hf j)) hl
theorem SlWPu.out {lo hi lo2 hi2 : Nat} {w w' : World} {l : List Pu} {v : Value} (h : SlWPu lo hi w l v) (g : KeptOut lo2 hi2 w w') (ho : hi ≤ lo2 ∨ hi2 ≤ lo) : SlWPu lo hi w' l v := by
  cases h with
  | empty a cap h => exact .empty a cap h
  | mk b o cap hc h1 h2 hb hf hl => exact .mk b o cap (hc.out g hb (by omega)) h1 h2 (Nat.lt_of_lt_of_le hb g.size) (fun j => (g.frozen hb (by omega)).trans (hf j)) hl
theorem SlWPu.mono {lo hi lo2 hi2 : Nat} {w : World} {l : List Pu} {v : Value} (h : SlWPu lo hi w l v) (h1 : lo2 ≤ lo) (h2 : hi ≤ hi2) : SlWPu lo2 hi2 w l v := by
  cases h with
  | empty a cap h => exact .empty a cap h
  | mk b o cap hc h1 h2 hb hf hl => exact .mk b o cap hc (by omega) (by omega) hb hf hl
theorem SlWPu.form {lo hi : Nat} {w : World} {l : List Pu} {v : Value} (h : SlWPu lo hi w l v) : ∃ a c, v = .slice a l.length c := by
  cases h with
  | empty a cap h => exact ⟨a, cap, by rw [h]; rfl⟩
  | mk b o cap _ _ _ _ _ _ => exact ⟨_, cap, rfl⟩
inductive SlOPu (B : Nat) (w : World) (l : List Pu) : Value → Prop where
  | empty (a : Option Addr) (cap : Nat) (h : l = []) : SlOPu B w l (.slice a 0 cap)
  | mk (b o cap : Nat) (hc : PusAt w b o l) (hB : b < B) (hb : b < w.heap.size) (hl : l.length ≤ cap) : SlOPu B w l (.slice (some ⟨b, o, none⟩) l.length cap)
theorem SlOPu.sl {B : Nat} {w : World} {l : List Pu} {v : Value} (h : SlOPu B w l v) : SlPu w l v := by
  cases h with
  | empty a cap h => exact .empty a cap h
  | mk b o cap hc _ hb hl => exact .mk b o cap hc hb hl
theorem SlOPu.start {w : World} {l : List Pu} {v : Value} (h : SlPu w l v) : SlOPu w.heap.size w l v := by
  cases h with
  | empty a cap h => exact .empty a cap h
  | mk b o cap hc hb hl => exact .mk b o cap hc hb hb hl
theorem SlOPu.below {B : Nat} {w w' : World} {l : List Pu} {v : Value} (h : SlOPu B w l v) (g : Below w.heap.size w w') : SlOPu B w' l v := by
  cases h with
  | empty a cap h => exact .empty a cap h
  | mk b o cap hc hB hb hl => exact .mk b o cap (hc.below g hb) hB (Nat.lt_of_lt_of_le hb g.size) hl
theorem SlOPu.out {B lo hi : Nat} {w w' : World} {l : List Pu} {v : Value} (h : SlOPu B w l v) (g : KeptOut lo hi w w') (ho : B ≤ lo) : SlOPu B w' l v := by
  cases h with
  | empty a cap h => exact .empty a cap h
  | mk b o cap hc hB hb hl => exact .mk b o cap (hc.out g hb (Or.inl (by omega))) hB (Nat.lt_of_lt_of_le hb g.size) hl

def Pu.cells (p : Pu) : List Value := [.int .i8 p.x, .int .i8 p.y, .int .i8 p.side, .int .i16 p.tick]
def flatPu (l : List Pu) : List Value := l.flatMap Pu.cells
theorem flatPu_length (l : List Pu) : (flatPu l).length = l.length * 4 := by
  induction l with
  | nil => rfl
  | cons p l ih => simp only [flatPu, List.flatMap_cons, List.length_append, List.length_cons] at *; rw [ih]; simp only [Pu.cells, List.length_cons, List.length_nil]; omega
theorem Pu_one (p : Pu) : ∀ u ∈ p.cells, u.oneCell' = true := by
  intro u hu
  simp only [Pu.cells, List.mem_cons, List.not_mem_nil, or_false] at hu
  rcases hu with rfl | rfl | rfl | rfl <;> rfl
theorem flatPu_one (l : List Pu) : ∀ u ∈ flatPu l, u.oneCell' = true := by
  intro u hu
  obtain ⟨p, _, hp⟩ := List.mem_flatMap.1 hu
  exact Pu_one p u hp
theorem flatPu_end (l : List Pu) (p : Pu) : flatPu (l ++ [p]) = flatPu l ++ p.cells := by simp [flatPu]
theorem flatPu_get : ∀ (l : List Pu) (i j : Nat) (h : i < l.length), j < 4 → (flatPu l)[i * 4 + j]? = l[i].cells[j]?
  | p :: l, 0, j, _, hj => by
    rw [show flatPu (p :: l) = p.cells ++ flatPu l from List.flatMap_cons, List.getElem?_append_left (by simp [Pu.cells]; omega)]; simp
  | p :: l, i + 1, j, h, hj => by
    rw [show flatPu (p :: l) = p.cells ++ flatPu l from List.flatMap_cons, List.getElem?_append_right (by simp [Pu.cells]; omega)]
    have := flatPu_get l i j (by simpa using h) hj
    simp only [List.getElem_cons_succ]
    rw [← this]
    congr 1
    simp [Pu.cells]; omega
  | [], _, _, h, _ => by simp at h
theorem PusAt.news {w : World} {b o : Nat} {l : List Pu} (h : PusAt w b o l) : ∀ j u, (flatPu l)[j]? = some u → w.cell? ((⟨b, o, none⟩ : Addr).add j) = some u := by
  intro j u hu
  rw [add_none]
  have hj : j < (flatPu l).length := by
    cases hlt : decide (j < (flatPu l).length) with
    | true => simpa using hlt
    | false => rw [List.getElem?_eq_none (by simpa using hlt)] at hu; cases hu
  rw [flatPu_length] at hj
  have hi : j / 4 < l.length := by omega
  have e : j / 4 * 4 + j % 4 = j := by omega
  have hg := flatPu_get l (j / 4) (j % 4) hi (by omega)
  rw [e, hu] at hg
  obtain ⟨h0, h1, h2, h3⟩ := h (j / 4) hi
  have h5 : j % 4 = 0 ∨ j % 4 = 1 ∨ j % 4 = 2 ∨ j % 4 = 3 := by omega
  rw [show o + j = o + j / 4 * 4 + j % 4 by omega]
  rcases h5 with q | q | q | q <;> rw [q] at hg ⊢ <;> simp only [Pu.cells, List.getElem?_cons_zero, List.getElem?_cons_succ, Option.some.injEq] at hg <;> subst hg
  · exact h0
  · exact h1
  · exact h2
  · exact h3
theorem SlWPu.of_owns {w : World} {base : Nat} {e : TypeId} {v : Value} {n : Nat} {l : List Pu} (h : w.ownsRow base e 4 v n (flatPu l)) : SlWPu base w.heap.size w l v := by
  obtain ⟨hl, h | ⟨g, cap, cur, rfl, hb, hg, hn, hm, hs, ht⟩⟩ := h
  · obtain ⟨rfl, rfl⟩ := h
    rw [flatPu_length] at hl
    exact .empty none 0 (List.length_eq_zero_iff.1 (by omega))
  · rw [flatPu_length] at hl
    obtain rfl : n = l.length := by omega
    have hlt : g < w.heap.size := (Array.getElem?_eq_some_iff.1 hg).1
    have hcell : ∀ j, j < l.length * 4 → w.cell? ⟨g, j, none⟩ = (flatPu l)[j]? := by
      intro j hj
      rw [← ht, List.getElem?_take_of_lt hj]
      have hjs : j < cur.toList.length := by rw [Array.length_toList, hs]; exact Nat.lt_of_lt_of_le hj (Nat.mul_le_mul_right 4 hn)
      rw [List.getElem?_eq_getElem hjs]
      exact (cell_of_row w g j cur e _ hg).trans (by simp)
    refine .mk g 0 cap (fun i hi => ?_) hb hlt hlt (fun j => frozen_of_row w _ j _ _ hg) hn
    have hc : ∀ j, j < 4 → w.cell? ⟨g, 0 + i * 4 + j, none⟩ = l[i].cells[j]? := fun j hj => by rw [Nat.zero_add, hcell _ (by omega), flatPu_get l i j hi hj]
    exact ⟨hc 0 (by omega), hc 1 (by omega), hc 2 (by omega), hc 3 (by omega)⟩
def FilledOPu (w : World) (B o n : Nat) (l : List Pu) (k : Nat) : Prop :=
  B < w.heap.size ∧ (∀ i (h : i < l.length), i < k → PuAt w B (o + i * 4) l[i]) ∧ (∀ j, j < n * 4 → ∃ v, w.cell? ⟨B, o + j, none⟩ = some v) ∧ (∀ j, w.frozen? ⟨B, j, none⟩ = false)
theorem FilledOPu.start {w : World} {B o : Nat} {l0 l : List Pu} (h : PusAt w B o l0) (hb : B < w.heap.size) (hf : ∀ j, w.frozen? ⟨B, j, none⟩ = false) : FilledOPu w B o l0.length l 0 := by
  refine ⟨hb, fun i _ hi => absurd hi (by omega), fun j hj => ?_, hf⟩
  obtain ⟨h0, h1, h2, h3⟩ := h (j / 4) (by omega)
  have : j % 4 = 0 ∨ j % 4 = 1 ∨ j % 4 = 2 ∨ j % 4 = 3 := by omega
  have hj5 : j = j / 4 * 4 + j % 4 := by omega
  rcases this with e | e | e | e <;> rw [e] at hj5 <;> rw [hj5]
  · exact ⟨_, h0⟩
  · exact ⟨_, by rw [← Nat.add_assoc]; exact h1⟩
  · exact ⟨_, by rw [← Nat.add_assoc]; exact h2⟩
  · exact ⟨_, by rw [← Nat.add_assoc]; exact h3⟩
theorem FilledOPu.store {w : World} {B o n k : Nat} {l : List Pu} {p : Pu} (h : FilledOPu w B o n l k) (hk : k < l.length) (hp : l[k] = p) (hkn : k < n) : FilledOPu (World.setPu w B (o + k * 4) p) B o n l (k + 1) := by
  obtain ⟨h1, h2, h3, h4⟩ := h
  refine ⟨by simpa [World.setPu, World.size_setCell] using h1, fun i hi hik => ?_, fun j hj => ?_, fun j => ?_⟩
  · by_cases e : i = k
    · subst e
      rw [hp]
      exact setPu_at (fun j hj => by rw [Nat.add_assoc]; exact h3 _ (by omega))
    · obtain ⟨a0, a1, a2, a3⟩ := h2 i hi (by omega)
      exact ⟨by rw [setPu_other (by omega)]; exact a0, by rw [setPu_other (by omega)]; exact a1, by rw [setPu_other (by omega)]; exact a2, by rw [setPu_other (by omega)]; exact a3⟩
  · obtain ⟨v, hv⟩ := h3 j hj
    unfold World.setPu
    obtain ⟨v1, g1⟩ := cell_set (j := o + k * 4) (v := .int .i8 p.x) hv
    obtain ⟨v2, g2⟩ := cell_set (j := o + k * 4 + 1) (v := .int .i8 p.y) g1
    obtain ⟨v3, g3⟩ := cell_set (j := o + k * 4 + 2) (v := .int .i8 p.side) g2
    exact cell_set (j := o + k * 4 + 3) (v := .int .i16 p.tick) g3
  · unfold World.setPu
    simp only [World.frozen?_setCell]
    exact h4 j

def markPu (k : Int) : Pu := ⟨IntKind.i8.wrap (k), IntKind.i8.wrap (k + 1), IntKind.i8.wrap (k + 1 + 1), IntKind.i16.wrap (k + 1 + 1 + 1)⟩
def marksPu (k : Int) (n : Nat) : List Pu := (List.range n).map fun i : Nat => markPu (k + 4 * (i : Int))
theorem marksPu_length (k : Int) (n : Nat) : (marksPu k n).length = n := by simp [marksPu]
theorem marksPu_get (k : Int) (n i : Nat) (h : i < (marksPu k n).length) : (marksPu k n)[i] = markPu (k + 4 * i) := by simp [marksPu]

set_option maxRecDepth 100000 in
set_option maxHeartbeats 4000000 in
theorem markPushS_mk (b o n cap : Nat) (k : Int) (l : List Pu) (w : World) (hn : l.length = n) (hc : PusAt w b o l) (hb : b < w.heap.size) (hf : ∀ j, w.frozen? ⟨b, j, none⟩ = false) (hcap : n ≤ cap) (hk0 : 0 ≤ k) (hk1 : k ≤ 100000000) (hmax : n ≤ 1048576) :
    Calls Tryd.prog 15 #[.slice (some ⟨b, o, none⟩) n cap, .int .i64 k] w fun e w' => e = .returned (.int .i64 (k + 4 * n)) ∧ FilledOPu w' b o n (marksPu k n) n ∧ KeptOut b (b + 1) w w' := by
  have hst := FilledOPu.start (l := marksPu k n) hc hb hf
  rw [hn] at hst
  have Hst := Lib.hid hst
  clear hst hc hf hn
  go_enter Tryd.func15, Tryd.ntmps15
  go_wp2
  go_loopw [1, 5, 6] (fun kk i _ wr => ∃ j : Nat, j ≤ n ∧ i = .int .i64 j ∧ kk = .int .i64 (k + 4 * j) ∧ Hid (FilledOPu wr b o n (marksPu k n) j) ∧ KeptOut b (b + 1) w wr) (fun _ i _ _ => n - (intOf i).toNat)
  case atStart => exact ⟨0, by omega, rfl, by simp, Hst, KeptOut.of_below (Below.refl _ _)⟩
  case round =>
    obtain ⟨j, hj, rfl, rfl, hf, hkp⟩ := hrel
    by_cases hlt : j < n
    · have hjl : j < (marksPu k n).length := by rw [marksPu_length]; exact hlt
      have HF := Lib.hid (hf.out.store hjl (marksPu_get k n j hjl) hlt)
      have hbw := hf.out.1
      obtain ⟨v0, d0⟩ := hf.out.2.2.1 (j * 4) (by omega)
      obtain ⟨v1, d1⟩ := hf.out.2.2.1 (j * 4 + 1) (by omega)
      obtain ⟨v2, d2⟩ := hf.out.2.2.1 (j * 4 + 2) (by omega)
      obtain ⟨v3, d3⟩ := hf.out.2.2.1 (j * 4 + 3) (by omega)
      rw [← Nat.add_assoc] at d1 d2 d3
      have f0 := hf.out.2.2.2 (o + j * 4)
      have f1 := hf.out.2.2.2 (o + j * 4 + 1)
      have f2 := hf.out.2.2.2 (o + j * 4 + 2)
      have f3 := hf.out.2.2.2 (o + j * 4 + 3)
      clear hf Hst
      go_wp2
      refine wp_loop_rounds 3 ?_
      rw [rounds_succ]
      go_wp2
      rw [rounds_succ]
      go_wp2
      rw [rounds_succ]
      go_wp2
      exact ⟨⟨j + 1, by omega, by go_num, by congr 1; push_cast; omega, HF, KeptOut.set (KeptOut.set (KeptOut.set (KeptOut.set (hkp) ⟨b, o + j * 4, none⟩ (Nat.le_refl _) (Nat.lt_succ_self _) _) ⟨b, o + j * 4 + 1, none⟩ (Nat.le_refl _) (Nat.lt_succ_self _) _) ⟨b, o + j * 4 + 1 + 1, none⟩ (Nat.le_refl _) (Nat.lt_succ_self _) _) ⟨b, o + j * 4 + 1 + 1 + 1, none⟩ (Nat.le_refl _) (Nat.lt_succ_self _) _⟩, by simp [intOf]; omega⟩
    · obtain rfl : j = n := by omega
      clear Hst
      go_wp2
      go_ret
      exact ⟨rfl, hf.out, hkp⟩
set_option maxHeartbeats 1000000 in
theorem markPushS_none (a : Option Addr) (cap : Nat) (k : Int) (w : World) (hk0 : 0 ≤ k) (hk1 : k ≤ 100000000) :
    Calls Tryd.prog 15 #[.slice a 0 cap, .int .i64 k] w fun e w' => e = .returned (.int .i64 k) ∧ Below w.heap.size w w' := by
  go_enter Tryd.func15, Tryd.ntmps15
  go_wp2
  refine wp_loop_rounds 1 ?_
  rw [rounds_succ]
  go_wp2
  go_ret
  exact ⟨rfl, Below.refl _ _⟩
theorem markPushS_any (lo hi : Nat) (v : Value) (l : List Pu) (k : Int) (w : World) (h : SlWPu lo hi w l v) (hk0 : 0 ≤ k) (hk1 : k ≤ 100000000) (hmax : l.length ≤ 1048576) :
    Calls Tryd.prog 15 #[v, .int .i64 k] w fun e w' => e = .returned (.int .i64 (k + 4 * l.length)) ∧ SlWPu lo hi w' (marksPu k l.length) v ∧ KeptOut lo hi w w' := by
  cases h with
  | empty a cap h =>
    subst h
    exact (markPushS_none a cap k w hk0 hk1).mono fun e w' ⟨h1, h2⟩ => ⟨by rw [h1]; simp, .empty a cap (by simp [marksPu]), KeptOut.of_below h2⟩
  | mk b o cap hc h1 h2 hb hf hl =>
    refine (markPushS_mk b o _ cap k l w rfl hc hb hf hl hk0 hk1 hmax).mono fun e w' ⟨e1, hF, hK⟩ => ⟨e1, ?_, hK.widen h1 (by omega)⟩
    obtain ⟨f1, f2, f3, f4⟩ := hF
    have := SlWPu.mk (lo := lo) (hi := hi) (w := w') (l := marksPu k l.length) b o cap (fun i hi => f2 i hi (by rw [marksPu_length] at hi; exact hi)) h1 h2 f1 f4 (by rw [marksPu_length]; exact hl)
    rwa [marksPu_length] at this
set_option maxRecDepth 100000 in
set_option maxHeartbeats 4000000 in
theorem heldPushS_mk (b o n cap : Nat) (k : Int) (w : World) (hc : PusAt w b o (marksPu k n)) (hb : b < w.heap.size) (hcap : n ≤ cap) (hk0 : 0 ≤ k) (hk1 : k ≤ 100000000) (hmax : n ≤ 1048576) :
    Calls Tryd.prog 16 #[.slice (some ⟨b, o, none⟩) n cap, .int .i64 k] w fun e w' => e = .returned (.int .i64 (k + 4 * n)) ∧ Below w.heap.size w w' := by
  go_enter Tryd.func16, Tryd.ntmps16
  go_wp2
  go_loopw [1, 5, 6] (fun kk i _ wr => ∃ j : Nat, j ≤ n ∧ i = .int .i64 j ∧ kk = .int .i64 (k + 4 * j) ∧ Below w.heap.size w wr) (fun _ i _ _ => n - (intOf i).toNat)
  case atStart => exact ⟨0, by omega, rfl, by simp, Below.refl _ _⟩
  case round =>
    obtain ⟨j, hj, rfl, rfl, hbr⟩ := hrel
    by_cases hlt : j < n
    · have hjl : j < (marksPu k n).length := by rw [marksPu_length]; exact hlt
      have hpa := (hc.below hbr hb) j hjl
      rw [marksPu_get k n j hjl] at hpa
      obtain ⟨d0, d1, d2, d3⟩ := hpa
      simp only [markPu] at d0 d1 d2 d3
      clear hc
      go_wp2
      refine wp_loop_rounds 3 ?_
      rw [rounds_succ]
      go_wp2
      rw [rounds_succ]
      go_wp2
      rw [rounds_succ]
      go_wp2
      exact ⟨⟨j + 1, by omega, by go_num, by congr 1; push_cast; omega, hbr⟩, by simp [intOf]; omega⟩
    · obtain rfl : j = n := by omega
      clear hc
      go_wp2
      go_ret
      exact ⟨rfl, hbr⟩
set_option maxHeartbeats 1000000 in
theorem heldPushS_none (a : Option Addr) (cap : Nat) (k : Int) (w : World) (hk0 : 0 ≤ k) (hk1 : k ≤ 100000000) :
    Calls Tryd.prog 16 #[.slice a 0 cap, .int .i64 k] w fun e w' => e = .returned (.int .i64 k) ∧ Below w.heap.size w w' := by
  go_enter Tryd.func16, Tryd.ntmps16
  go_wp2
  refine wp_loop_rounds 1 ?_
  rw [rounds_succ]
  go_wp2
  go_ret
  exact ⟨rfl, Below.refl _ _⟩
theorem heldPushS_any (lo hi n : Nat) (v : Value) (k : Int) (w : World) (h : SlWPu lo hi w (marksPu k n) v) (hk0 : 0 ≤ k) (hk1 : k ≤ 100000000) (hmax : n ≤ 1048576) :
    Calls Tryd.prog 16 #[v, .int .i64 k] w fun e w' => e = .returned (.int .i64 (k + 4 * n)) ∧ Below w.heap.size w w' := by
  generalize hm : marksPu k n = l at h
  have hl : l.length = n := by rw [← hm, marksPu_length]
  cases h with
  | empty a cap h =>
    subst h
    obtain rfl : n = 0 := by simpa using hl.symm
    exact (heldPushS_none a cap k w hk0 hk1).mono fun e w' ⟨h1, h2⟩ => ⟨by rw [h1]; simp, h2⟩
  | mk b o cap hc h1 h2 hb hf hcap =>
    rw [hl] at hcap ⊢
    exact heldPushS_mk b o n cap k w (by rw [hm]; exact hc) hb hcap hk0 hk1 hmax
end Go.Proofs.YthngnbaoaeomeaaDoor

namespace Go.Proofs.YthngnbaoaeomeaaDoor
open Go.ChangeShapes Go.WideShapes Go.ChangeAt Go.RowKit Go.Joins Go.Deep
end Go.Proofs.YthngnbaoaeomeaaDoor
namespace Go.Proofs.YthngnbaoaeomeaaDoor
open Go.ChangeShapes Go.WideShapes Go.ChangeAt Go.RowKit Go.Joins Go.Deep
end Go.Proofs.YthngnbaoaeomeaaDoor
namespace Go.Proofs.YthngnbaoaeomeaaDoor
open Go.ChangeShapes Go.WideShapes Go.ChangeAt Go.RowKit Go.Joins Go.Deep
end Go.Proofs.YthngnbaoaeomeaaDoor
namespace Go.Proofs.YthngnbaoaeomeaaDoor
open Go.ChangeShapes Go.WideShapes Go.ChangeAt Go.RowKit Go.Joins Go.Deep
end Go.Proofs.YthngnbaoaeomeaaDoor